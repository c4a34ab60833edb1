import Derived.Test.YtkkekopomiehlabHSf7
import Derived.ChangeKeysEq
import Derived.Great.BuildSlice
set_option linter.unusedVariables false
set_option linter.unusedSimpArgs false
set_option maxHeartbeats 40000000
set_option maxRecDepth 4000
namespace Go.Proofs.Ytkkekopomiehlab
section
section
variable {α : Type}
structure EdgesOk (nx : α -> Nat -> Option α) (L : List (TS α)) (E : List (Nat × Nat × Nat)) : Prop where
 ok : ∀ i j p,(i,j,p) ∈ E -> p < 9 /\ ∃ a b,L[i]? = some a /\ L[j]? = some b /\ nx a.now p = some b.now
 all : ∀ (i : Nat) (a : TS α) (p : Nat) (y : α),L[i]? = some a -> p < 9 -> nx a.now p = some y -> ∃ j,(i,j,p) ∈ E
theorem EdgesOk.lt {nx : α -> Nat -> Option α} {L : List (TS α)} {E : List (Nat × Nat × Nat)} (h : EdgesOk nx L E) : ∀ e ∈ E,e.1 < L.length /\ e.2.1 < L.length:=fun ⟨i,j,p⟩ he => by
 obtain ⟨_,a,b,ha,hb,_⟩:=h.ok i j p he
 exact ⟨(List.getElem?_eq_some_iff.1 ha).1,(List.getElem?_eq_some_iff.1 hb).1⟩
theorem EdgesOk.det {nx : α -> Nat -> Option α} {L : List (TS α)} {E : List (Nat × Nat × Nat)} {t : Nat} (h : EdgesOk nx L E) (hi : TInv nx L t) {i j k p : Nat} (h1 : (i,j,p) ∈ E) (h2 : (i,k,p) ∈ E) : j = k:=by
 obtain ⟨_,a,b,ha,hb,hab⟩:=h.ok i j p h1
 obtain ⟨_,a',c,ha',hc,hac⟩:=h.ok i k p h2
 rw [ha] at ha';cases ha'
 rw [hab] at hac
 exact hi.nd j k b c hb hc (by simpa using hac)
theorem TInv.lower {nx : α -> Nat -> Option α} {L : List (TS α)} (h : TInv nx L (9 * L.length)) {i u p k : Nat} {a b x : TS α} (ha : L[i]? = some a) (hb : L[u]? = some b) (hp : p < 9) (hab : nx a.now p = some b.now) (hx : L[k]? = some x) (hk : 0 < k) (ht : 9 * i + p < 9 * x.fr + x.to) : u < k:=by
 have hil:=(List.getElem?_eq_some_iff.1 ha).1
 obtain ⟨j,c,hc,hcb,hj⟩:=h.ev i a p b.now ha hp hab (by omega)
 have hju:=h.nd j u c b hc hb hcb
 subst hju
 rw [hb] at hc;cases hc
 rcases hj with rfl | hj
 ·exact hk
 ·apply Nat.lt_of_not_le;intro hc
  obtain ⟨k,rfl⟩ : ∃ m,k = m + 1:=⟨k - 1,by omega⟩
  obtain ⟨j,rfl⟩ : ∃ m,j = m + 1:=⟨j - 1,by omega⟩
  rcases Nat.lt_or_ge k j with hlt | hge
  ·have:=h.mono k j x b hlt hx hb;omega
  ·obtain rfl : k = j:=by omega
   rw [hb] at hx;cases hx;omega
structure Way (L : List (TS α)) (g D : Nat) (v : Nat -> Nat) : Prop where
 zero : v 0 = 0
 last : v D = g
 step : ∀ t,t < D -> 0 < v (t + 1) /\ v t < v (t + 1) /\ ∃ a,L[v (t + 1)]? = some a /\ a.fr = v t
theorem zpx {nx : α -> Nat -> Option α} {L : List (TS α)} {t : Nat} (h : TInv nx L t) : ∀ n g,g <= n -> g < L.length -> ∃ D v,Way L g D v:=by
 intro n
 induction n with
 | zero => exact fun g hg _ => ⟨0,fun _ => 0,rfl,by omega,fun t ht => by omega⟩
 | succ n ih =>
  intro g hg hl
  cases g with
  | zero => exact ⟨0,fun _ => 0,rfl,rfl,fun t ht => by omega⟩
  | succ g =>
   obtain ⟨a,ha⟩ : ∃ a,L[g + 1]? = some a:=⟨_,List.getElem?_eq_getElem hl⟩
   obtain ⟨_,h2,_,_⟩:=h.tm g a ha
   obtain ⟨D,v,hv⟩:=ih a.fr (by omega) (by omega)
   refine ⟨D + 1,fun t => if t <= D then v t else g + 1,?_,?_,fun t ht => ?_⟩
   ·simp only [Nat.zero_le,if_true];exact hv.zero
   ·simp only [show ¬ D + 1 <= D by omega,if_false]
   ·by_cases htD : t < D
    ·simp only [show t <= D by omega,show t + 1 <= D by omega,if_true];exact hv.step t htD
    ·obtain rfl : t = D:=by omega
     simp only [Nat.le_refl,show ¬ t + 1 <= t by omega,if_true,if_false]
     exact ⟨by omega,by rw [hv.last];exact h2,a,ha,hv.last.symm⟩
theorem Way.le {L : List (TS α)} {g D : Nat} {v : Nat -> Nat} (h : Way L g D v) : ∀ {s},s <= D -> v s <= g:=by
 intro s hs
 obtain ⟨d,rfl⟩ : ∃ d,D = s + d:=⟨D - s,by omega⟩
 have : ∀ d',d' <= d -> v s <= v (s + d'):=by
  intro d'
  induction d' with
  | zero => exact fun _ => Nat.le_refl _
  | succ d' ih => intro hd;have:=ih (by omega);have:=(h.step (s + d') (by omega)).2.1;rw [<- Nat.add_assoc];omega
 have:=this d (Nat.le_refl _)
 rw [h.last] at this;exact this
section
variable {nx : α -> Nat -> Option α} {L : List (TS α)} {E : List (Nat × Nat × Nat)} {G : Nat -> Bool} {g D : Nat} {v : Nat -> Nat}
theorem ze1 (hi : TInv nx L (9 * L.length)) (he : EdgesOk nx L E) (hv : Way L g D v) (hg : ∀ i,i < g -> G i = false) : ∀ c s u,u < v s -> nrB E G c u = true -> s + c <= D -> False
 | 0,s,u,hu,hn,hs => by
  have:=hv.le (s:=s) (by omega)
  rw [nrB,hg u (by omega)] at hn;cases hn
 | c + 1,s,u,hu,hn,hs => by
  rcases zfw hn with hn | ⟨j,p,hj,hn⟩
  ·exact ze1 hi he hv hg c s u hu hn (by omega)
  ·obtain ⟨hp,a,b,ha,hb,hab⟩:=he.ok u j p hj
   obtain ⟨h0,_,x,hx,hxf⟩:=hv.step s (by omega)
   exact ze1 hi he hv hg c (s + 1) j (hi.lower ha hb hp hab hx h0 (by omega)) hn (by omega)
theorem ze0 (hi : TInv nx L (9 * L.length)) (he : EdgesOk nx L E) (hv : Way L g D v) {t : Nat} (ht : t < D) {x : TS α} (hx : L[v (t + 1)]? = some x) : (v t,v (t + 1),x.to) ∈ E:=by
 obtain ⟨h0,_,x',hx',hxf⟩:=hv.step t ht
 rw [hx] at hx';cases hx'
 obtain ⟨k,hk⟩ : ∃ k,v (t + 1) = k + 1:=⟨v (t + 1) - 1,by omega⟩
 have hx2:=hx
 rw [hk] at hx2
 obtain ⟨_,_,h3,b,hb,hbx⟩:=hi.tm k x hx2
 rw [hxf] at hb
 obtain ⟨j,hj⟩:=he.all (v t) b x.to x.now hb h3 hbx
 obtain ⟨_,a,c,ha,hc,hac⟩:=he.ok _ _ _ hj
 rw [hb] at ha;cases ha
 rw [hbx] at hac
 have:=hi.nd j (v (t + 1)) c x hc hx (by simpa using hac.symm)
 rw [<- this];exact hj
end
end
section
variable {α : Type} {nx : α -> Nat -> Option α} {L : List (TS α)} {E : List (Nat × Nat × Nat)} {G : Nat -> Bool} {g D : Nat} {v : Nat -> Nat}
end
end
section
theorem zft : ∀ (N : Nat) (l : List Nat),l.Nodup -> (∀ x ∈ l,x < N) -> l.length <= N
 | 0,[],_,_ => Nat.le_refl _
 | 0,a :: l,_,h => absurd (h a (by simp)) (Nat.not_lt_zero _)
 | N + 1,l,hn,h => by
  have h1:=zft N (l.erase N) (hn.erase N) fun x hx => by
   have:=(hn.mem_erase_iff).1 hx
   have:=h x this.2
   omega
  rw [List.length_erase] at h1
  split at h1 <;> omega
theorem zh2 {l : List Nat} (h : ∀ (i j : Nat) (a : Nat),l[i]? = some a -> l[j]? = some a -> i = j) : l.Nodup:=by
 unfold List.Nodup
 rw [List.pairwise_iff_getElem]
 intro i j hi hj hij he
 have:=h i j l[j] (by rw [List.getElem?_eq_getElem hi,he]) (List.getElem?_eq_getElem hj)
 omega
def bitC : List Bool -> Nat
 | [] => 0
 | b :: l => (if b = true then 1 else 0) + 2 * bitC l
theorem zdc : ∀ l,bitC l < 2 ^ l.length
 | [] => by simp [bitC]
 | b :: l => by
  have:=zdc l
  rw [bitC,List.length_cons,Nat.pow_succ]
  split <;> omega
theorem zfa : ∀ (l m : List Bool),l.length = m.length -> bitC l = bitC m -> l = m
 | [],[],_,_ => rfl
 | [],a :: m,h,_ => by simp at h
 | a :: l,[],h,_ => by simp at h
 | a :: l,b :: m,h,he => by
  rw [bitC,bitC] at he
  have h1 : bitC l = bitC m:=by split at he <;> split at he <;> omega
  have h2 : a = b:=by cases a <;> cases b <;> simp at he ⊢ <;> omega
  rw [h2,zfa l m (by simpa using h) h1]
section
variable {α : Type}
theorem TInv.len {P : α -> Prop} {nx : α -> Nat -> Option α} {L : List (TS α)} {t N : Nat} (h : TInv nx L t) (hP : ∀ (j : Nat) (a : TS α),L[j]? = some a -> P a.now) (code : α -> Nat) (hinj : ∀ x y,P x -> P y -> code x = code y -> x = y) (hlt : ∀ x,P x -> code x < N) : L.length <= N:=by
 have:=zft N (L.map fun t => code t.now) (zh2 fun i j a hi hj => by
  rw [List.getElem?_map,Option.map_eq_some_iff] at hi hj
  obtain ⟨x,hx,hxa⟩:=hi
  obtain ⟨y,hy,hya⟩:=hj
  exact h.nd i j x y hx hy (hinj _ _ (hP i x hx) (hP j y hy) (hxa.trans hya.symm))) fun c hc => by
   obtain ⟨x,hx,rfl⟩:=List.mem_map.1 hc
   obtain ⟨j,hj⟩:=List.getElem?_of_mem hx
   exact hlt _ (hP j x hj)
 rwa [List.length_map] at this
end
section
theorem zo2 {P : SiD -> Prop} {k p : Nat} {L : List (TS SiD)} {y : SiD} (h : ∀ (j : Nat) (a : TS SiD),L[j]? = some a -> P a.now) (hy : P y) : ∀ (j : Nat) (a : TS SiD),(tins k L p y)[j]? = some a -> P a.now:=by
 unfold tins;split
 ·exact h
 ·intro j a ha
  rcases zcm ha with ha | ⟨_,rfl⟩
  ·exact h j a ha
  ·exact hy
theorem zey {P : SiD -> Prop} {nx : SiD -> Nat -> Option SiD} {k : Nat} {s : SiD} {L : List (TS SiD)} (hs : ∀ s p y,P s -> nx s p = some y -> P y) (h0 : P s) (h : ∀ (j : Nat) (a : TS SiD),L[j]? = some a -> P a.now) : ∀ p (j : Nat) (a : TS SiD),(tin nx k s p L)[j]? = some a -> P a.now
 | 0 => h
 | p + 1 => by
  rw [tin];split
  ·rename_i y hy;exact zo2 (zey hs h0 h p) (hs s p y h0 hy)
  ·exact zey hs h0 h p
theorem zc5 {P : SiD -> Prop} {nx : SiD -> Nat -> Option SiD} {s0 : SiD} (h0 : P s0) (hs : ∀ s p y,P s -> nx s p = some y -> P y) : ∀ k (j : Nat) (a : TS SiD),(tou nx s0 k)[j]? = some a -> P a.now
 | 0 => fun j a ha => by
  have hj:=(List.getElem?_eq_some_iff.1 ha).1
  simp [tou] at hj
  subst hj
  simp [tou] at ha
  rw [<- ha];exact h0
 | k + 1 => by
  rw [tou];split
  ·rename_i a ha;exact zey hs (zc5 h0 hs k k a ha) (zc5 h0 hs k) 9
  ·exact zc5 h0 hs k
end
end
section
open Go.RowKit
open Go.Lib (below_setCells)
theorem zhk {P : Program} (w : World) (d : Nat) {e : TypeId} (he : P.underlying e = some .bool) (xs ys : List Bool) : ∀ (is : List Nat),(∀ i ∈ is,i < xs.length /\ i < ys.length) ->
  (Op.eqItems (d + 1) e 1 (xs.map Value.bool).toArray (ys.map Value.bool).toArray is).run P w = .ok (is.all fun i => xs.getD i false == ys.getD i false) w
 | [],_ => by simp [Op.eqItems]
 | i :: is,h => by
  obtain ⟨h1,h2⟩:=h i (by simp)
  have ih:=zhk w d he xs ys is (fun j hj => h j (by simp [hj]))
  have hp : P.plainKey e = true:=by simp [Program.plainKey,he]
  have p1:=run_part_plain (P:=P) w hp (xs:=(xs.map Value.bool).toArray) (off:=i * 1) (v:=.bool xs[i]) (by simp [h1])
  have p2:=run_part_plain (P:=P) w hp (xs:=(ys.map Value.bool).toArray) (off:=i * 1) (v:=.bool ys[i]) (by simp [h2])
  have e1 : xs.getD i false = xs[i]:=by simp [List.getD,h1]
  have e2 : ys.getD i false = ys[i]:=by simp [List.getD,h2]
  simp only [Op.eqItems,Sem.run_bind,p1,p2,Result.andThen_ok,run_equalIn_bool w d e _ _ he,List.all_cons,e1,e2]
  cases hb : xs[i] == ys[i] with
  | true => simpa using ih
  | false => simp
theorem zkj {xs ys : List Bool} (hx : xs.length = 9) (hy : ys.length = 9) : ((List.range 9).all fun i => xs.getD i false == ys.getD i false) = decide (xs = ys):=by
 by_cases h : xs = ys
 ·subst h;simp
 ·rw [decide_eq_false h]
  cases hc : (List.range 9).all fun i => xs.getD i false == ys.getD i false with
  | false => rfl
  | true =>
   refine absurd (List.ext_getElem (by omega) fun i h1 h2 => ?_) h
   have:=List.all_eq_true.1 hc i (List.mem_range.2 (by omega))
   simpa [List.getD,h1,h2] using this
theorem Try.cellsBool : Try.prog.cellsOf 4 = 1:=by kernel_rfl
theorem Try.infoB : ∃ i,Try.prog.info? 4 = some i:=info_of_underlying Try.underlying4
theorem zf8 (w : World) (d : Nat) {xs ys : List Bool} (hx : xs.length = 9) (hy : ys.length = 9) :
  (Op.equalIn (d + 2) 47 (.agg (xs.map Value.bool).toArray) (.agg (ys.map Value.bool).toArray)).run Try.prog w = .ok (decide (xs = ys)) w:=by
 obtain ⟨i,hi⟩:=Try.infoB
 rw [run_equalIn_array w (d + 1) _ _ Try.underlying47 hi,Try.cellsBool,zhk w d Try.underlying4 xs ys _ (fun j hj => by have:=List.mem_range.1 hj;omega),zkj hx hy]
theorem Try.infoSet2 : ∃ i,Try.prog.info? 47 = some i:=info_of_underlying Try.underlying47
theorem Try.cellsSet : Try.prog.cellsOf 47 = 9:=by kernel_rfl
theorem zf2 (w : World) {cs : Array Value} {off : Nat} : (part 47 cs off).run Try.prog w = .ok (.agg (cs.extract off (off + 9))) w:=by
 obtain ⟨i,hi⟩:=Try.infoSet2
 simp [part,isAgg,run_underlying Try.underlying47,run_sizeOf w hi,Try.cellsSet]
theorem zjh {s : SiD} (h : s.ok) : s.cells.toArray.extract 0 9 = (s.has.map Value.bool).toArray /\ s.cells.toArray.extract 9 18 = (s.had.map Value.bool).toArray:=by
 obtain ⟨h1,h2⟩:=h
 unfold SiD.cells
 rw [List.map_append]
 constructor
 ·apply Array.toList_inj.1
  rw [Array.toList_extract];simp [List.extract,h1]
 ·apply Array.toList_inj.1
  rw [Array.toList_extract];simp [List.extract,h1]
  exact List.take_of_length_le (by simp [h2])
theorem zpa {α : Type} {l : List α} (h : l.length = 2) : ∃ f g,l = [f,g]:=by
 match l,h with
 | [f,g],_ => exact ⟨f,g,rfl⟩
theorem zon (w : World) (d : Nat) {s t : SiD} (hs : s.ok) (ht : t.ok) :
  (Op.equalIn (d + 3) 91 (.agg s.cells.toArray) (.agg t.cells.toArray)).run Try.prog w = .ok (zdw s t) w:=by
 have hm : (Try.prog.fieldsOf 91).toList.map (fun f => (f.name, f.type, f.offset)) = [("has", 47, 0), ("had", 47, 9)] := by kernel_rfl
 have hu : Try.prog.underlying 91 = some (.struct (Try.prog.fieldsOf 91)):=by kernel_rfl
 rw [run_equalIn_struct w (d + 2) 91 _ _ hu (by kernel_rfl)]
 generalize (Try.prog.fieldsOf 91).toList = l at hm
 obtain ⟨f,g,rfl⟩:=zpa (by simpa using congrArg List.length hm)
 simp only [List.map_cons,List.map_nil,List.cons.injEq,Prod.mk.injEq,and_true] at hm
 obtain ⟨⟨f1,f2,f3⟩,g1,g2,g3⟩:=hm
 have hn1 : f.name ≠ "_" := by rw [f1]; decide
 have hn2 : g.name ≠ "_" := by rw [g1]; decide
 obtain ⟨c1,c2⟩:=zjh hs
 obtain ⟨d1,d2⟩:=zjh ht
 have p1:=zf2 w (cs:=s.cells.toArray) (off:=9)
 have p2:=zf2 w (cs:=t.cells.toArray) (off:=9)
 rw [show 9 + 9 = 18 from rfl,c2] at p1
 rw [show 9 + 9 = 18 from rfl,d2] at p2
 simp only [Op.eqFields,if_pos hn1,if_pos hn2,f2,f3,g2,g3,Sem.run_bind,zf2,Nat.zero_add,c1,d1,zf8 w d hs.1 ht.1,Result.andThen_ok]
 unfold zdw
 have q:=zf8 w d hs.2 ht.2
 cases decide (s.has = t.has) with
 | false => simp
 | true =>
  simp only [Bool.not_true,Bool.false_eq_true,if_false,Sem.run_bind,p1,p2,q,Result.andThen_ok,Bool.true_and]
  cases decide (s.had = t.had) <;> simp
theorem ze2 {P : Program} {ops : Array Oper} {rest : List Oper} {op : Oper} {a : Act} {w : World} {Q : Exit -> Act -> World -> Prop} (hgd : op.guard = none) (t u : TypeId) (x y : Operand) (ho : op.op = .binOp .eql t x y u) (xs ys : Array Value) (hx : a.eval x = .agg xs) (hy : a.eval y = .agg ys) (hm : P.eqGuardType P.depth t = false) (r : Bool) (he : (Op.equalIn 10000 t (.agg xs) (.agg ys)).run P w = .ok r w)
  (h : wpList P ops Q rest (a.put op.dst (.bool r)) w) : wpList P ops Q (op :: rest) a w:=by
 refine wpList_plain hgd fun K hK => ?_
 unfold Oper.wp execOp
 simp only [ho,hx,hy,Sem.run_bind,run_eqGuard_agg w .eql t x y xs ys hm,run_eql_struct w t xs ys,he,Result.andThen_ok,Sem.run_pure]
 exact hK _ _ h
end
section
open Go.RowKit
open Go.Lib (below_setCells)
def stC (t : TS SiD) : List Value:=t.now.cells ++ [.int .i64 t.fr,.int .i64 t.to]
def stsC : List (TS SiD) -> List Value
 | [] => []
 | t :: L => stC t ++ stsC L
def zbp (L : List (TS SiD)) : Prop:=∀ t ∈ L,t.now.ok
theorem zb3 {t : TS SiD} (h : t.now.ok) : (stC t).length = 20:=by
 have:=h.len
 unfold stC;simp [this]
theorem zew : ∀ {L : List (TS SiD)},zbp L -> (stsC L).length = L.length * 20
 | [],_ => rfl
 | t :: L,h => by
  rw [stsC,List.length_append,zb3 (h t (by simp)),zew (fun x hx => h x (by simp [hx])),List.length_cons];omega
theorem zjm : ∀ (L : List (TS SiD)) (t : TS SiD),stsC (L ++ [t]) = stsC L ++ stC t
 | [],t => by simp [stsC]
 | a :: L,t => by rw [List.cons_append,stsC,zjm L t,stsC,List.append_assoc]
theorem zjl : ∀ {L : List (TS SiD)} {i j : Nat} {t : TS SiD} {v : Value},zbp L -> L[i]? = some t -> (stC t)[j]? = some v -> (stsC L)[i * 20 + j]? = some v
 | [],i,j,t,v,h,hi,hj => by simp at hi
 | q :: L,0,j,t,v,h,hi,hj => by
  simp at hi;subst hi
  have:=(List.getElem?_eq_some_iff.1 hj).1
  rw [stsC,List.getElem?_append_left (by omega),show 0 * 20 + j = j by omega];exact hj
 | q :: L,i + 1,j,t,v,h,hi,hj => by
  rw [List.getElem?_cons_succ] at hi
  rw [stsC,List.getElem?_append_right (by rw [zb3 (h q (by simp))];omega),zb3 (h q (by simp)),show (i + 1) * 20 + j - 20 = i * 20 + j by omega]
  exact zjl (fun x hx => h x (by simp [hx])) hi hj
theorem zex {w : World} {g : Nat} {L : List (TS SiD)} {i : Nat} {t : TS SiD} (hr : w.rangeAt g 0 (stsC L)) (h : zbp L) (hi : L[i]? = some t) : w.rangeAt g (i * 20) (stC t):=fun j v hj => by
 have:=hr (i * 20 + j) v (zjl h hi hj)
 rw [Nat.zero_add] at this;exact this
theorem Try.infoStp : (Try.prog.info? 110).map (·.size) = some 20:=by kernel_rfl
theorem Try.eqgSit : Try.prog.eqGuardType Try.prog.depth 91 = false:=by kernel_rfl
theorem Try.eqgSet : Try.prog.eqGuardType Try.prog.depth 47 = false:=by kernel_rfl
theorem zev (t : TS SiD) : (stC t).toArray.all (·.oneCell') = true:=all_oneCell_toArray fun v hv => by
 rcases List.mem_append.1 hv with h | h
 ·unfold SiD.cells at h
  obtain ⟨b,_,rfl⟩:=List.mem_map.1 h
  rfl
 ·simp at h;rcases h with rfl | rfl <;> rfl
theorem zbi {P : Program} {ops : Array Oper} {rest : List Oper} {op : Oper} {a : Act} {w : World} {Q : Exit -> Act -> World -> Prop} (hgd : op.guard = none) (ty : TypeId) (x y : Operand) (ho : op.op = .store ty x y)
  (b o : Nat) (cells : Array Value) (hx : a.eval x = .pointer (some ⟨b,o,none⟩)) (hy : a.eval y = .agg cells)
  (ht : w.there b o cells.size) (hi : (P.info? ty).map (·.size) = some cells.size) (h1 : cells.all (·.oneCell') = true) (R : World -> Prop) (hR : R (w.setCells b o cells.toList))
  (h : ∀ W,R W -> wpList P ops Q rest (a.put op.dst undef) W) : wpList P ops Q (op :: rest) a w :=
 wpList_store_mid hgd ty x y ho b o cells hx hy ht hi h1 (h _ hR)
theorem zkn {L : List (TS SiD)} {y : SiD} {i : Nat} {t : TS SiD} (hi : L[i]? = some t) : (L.take (i + 1)).any (fun t => zdw t.now y) = ((L.take i).any (fun t => zdw t.now y) || zdw t.now y):=by
 rw [List.take_add_one,hi,List.any_append];simp
theorem zlz (L : List (TS SiD)) (hL : zbp L) (y : SiD) (hy : y.ok) (g cap : Nat) (w : World) (hlen : L.length <= 262144) (hr : w.rangeAt g 0 (stsC L)) :
  Calls Try.prog 50 #[.slice (some ⟨g,0,none⟩) L.length cap,.agg y.cells.toArray] w fun e W => e = .returned (.bool (L.any fun t => zdw t.now y)) /\ Below w.heap.size w W:=by
 have hq1:=za0 (zan w (.cells y.cells.toArray 91))
 obtain ⟨y1,y2,y3⟩:=zb2 hy
 obtain ⟨R,hR⟩ : ∃ R,R = L.any (fun t => zdw t.now y):=⟨_,rfl⟩
 rw [<- hR]
 have HR:= zab hR
 have HL:= zab hL
 have HY:= zab hy
 have hb0:=belS w (.cells y.cells.toArray 91)
 have hrr:=zae hb0 hr
 have HRR:= zab hrr
 clear hR hL hy hr hrr
 go_enter Try.func50,Try.ntmps50
 go_wp2_with fail
 go_loopw [9] (fun vi wr => ∃ i : Nat,i <= L.length /\ vi = .int .i64 i /\ Hid ((L.take i).any (fun t => zdw t.now y) = false) /\ wr.rangeAt w.heap.size 0 y.cells /\ Below (w.heap.size + 1) (w.alloc (.cells y.cells.toArray 91)) wr) (fun i _ => L.length - (intOf i).toNat)
 case atStart => exact ⟨0,Nat.zero_le _,rfl,(by show _ = _;rfl),hq1,Below.refl _ _⟩
 case round =>
  obtain ⟨i,hi,rfl,hn,rq,hb⟩:=hrel
  rename World => w5
  have hbw : Below w.heap.size w w5:=hb0.trans (hb.mono (by simp))
  by_cases hlt : i < L.length
  ·obtain ⟨t,ht⟩ : ∃ t,L[i]? = some t:=⟨L[i],List.getElem?_eq_getElem hlt⟩
   have hto:=HL.out t (List.mem_of_getElem? ht)
   have r1:=zex (zae (hb.mono (by simp)) HRR.out) HL.out ht
   have hst:=zkn (y:=y) ht
   rw [hn.out,Bool.false_or] at hst
   have hyes : zdw t.now y = true -> R = true:=fun h => by rw [HR.out];exact List.any_eq_true.2 ⟨t,List.mem_of_getElem? ht,h⟩
   have heq : ∀ W,(Op.equalIn 10000 91 (.agg t.now.cells.toArray) (.agg y.cells.toArray)).run Try.prog W = .ok (zdw t.now y) W:=fun W => by exact zon W 9997 hto HY.out
   obtain ⟨t1,t2,t3⟩:=zb2 hto
   have hi20 : (Try.prog.info? 110).map (·.size) = some (stC t).length:=by rw [zb3 hto];exact Try.infoStp
   have hi21 : (Try.prog.info? 110).map (·.size) = some (stC t).toArray.size:=by rw [List.size_toArray];exact hi20
   have h1:=zev t
   have hz : ∀ cs : Array Value,cs.size = 20 -> (w5.alloc (.cells cs 110)).there w5.heap.size 0 (stC t).toArray.size:=fun cs hcs => by
    have:=zbh (zan w5 (.cells cs 110))
    rw [hcs] at this
    rw [show (stC t).toArray.size = 20 by simpa using zb3 hto];exact this
   have h6 : ∀ cs : Array Value,cs.size = 20 -> (fun W : World => W.rangeAt w5.heap.size 0 t.now.cells /\ W.rangeAt w.heap.size 0 y.cells /\ Below (w.heap.size + 1) (w.alloc (.cells y.cells.toArray 91)) W) ((w5.alloc (.cells cs 110)).setCells w5.heap.size 0 (stC t)):=fun cs hcs => by
    have z5:=hb.size
    rw [za9] at z5
    refine ⟨?_,?_,?_⟩
    ·have:=zbo (k:=0) (ds:=t.now.cells) (World.rangeAt_setCells_same _ w5.heap.size 0 (stC t) (by simpa using hz cs hcs)) (fun j v hj => by
      rw [Nat.zero_add];unfold stC;rw [List.getElem?_append_left (List.getElem?_eq_some_iff.1 hj).1];exact hj)
     exact this
    ·exact World.rangeAt_setCells_apart (zae (belS _ _) rq) _ _ _ (.inl (by omega))
    ·exact below_setCells _ (by omega) _ _ (hb.alloc (by omega) _)
   have HZ:= zab hz
   have H6:= zab h6
   have HTC:=(zab (zb3 hto))
   have hx0 := znn i
   have hx1 : (i : Int) < (L.length : Int):=by omega
   have HST:= zab hst
   clear hz h6 hst hn ht
   generalize zdw t.now y = x at heq hyes HST
   cases x with
   | true =>
    have hR1:=hyes rfl
    clear hyes HST HR
    subst hR1
    go_wp2_with (first
     | (refine wpList_load_mid (w:=w5) rfl 110 _ rfl g (i * 20) rfl (stC t) _ r1 Try.underlying110 rfl hi20 ?_;simp only [Act.put,List.setIfInBounds_toArray,List.set_cons_zero,List.set_cons_succ,List.getElem_toArray,List.getElem_cons_zero,List.getElem_cons_succ])
     | (refine zbi rfl 110 _ _ rfl w5.heap.size 0 (stC t).toArray rfl rfl (HZ.out _ (by rfl)) hi21 h1 (fun W => W.rangeAt w5.heap.size 0 t.now.cells /\ W.rangeAt w.heap.size 0 y.cells /\ Below (w.heap.size + 1) (w.alloc (.cells y.cells.toArray 91)) W) (H6.out _ (by rfl)) ?_;rintro w6 ⟨q1,q2,q3⟩)
     | (have hq:=m2;refine ze2 rfl 91 _ _ _ rfl _ _ rfl rfl Try.eqgSit _ (heq _) ?_)
     | (have hq:=m1;refine wpList_load_mid (w:=w6) rfl 91 _ rfl w.heap.size 0 rfl y.cells _ q2 Try.underlying91 rfl y1 ?_;simp only [Act.put,List.setIfInBounds_toArray,List.set_cons_zero,List.set_cons_succ,List.getElem_toArray,List.getElem_cons_zero,List.getElem_cons_succ];have m2 : True:=trivial)
     | (have hq:=q1;refine wpList_load_mid (w:=w6) rfl 91 _ rfl w5.heap.size 0 rfl t.now.cells _ q1 Try.underlying91 rfl t1 ?_;simp only [Act.put,List.setIfInBounds_toArray,List.set_cons_zero,List.set_cons_succ,List.getElem_toArray,List.getElem_cons_zero,List.getElem_cons_succ];have m1 : True:=trivial))
    go_ret
    exact ⟨rfl,hb0.trans (q3.mono (by simp))⟩
   | false =>
    clear hyes
    go_wp2_with (first
     | (refine wpList_load_mid (w:=w5) rfl 110 _ rfl g (i * 20) rfl (stC t) _ r1 Try.underlying110 rfl hi20 ?_;simp only [Act.put,List.setIfInBounds_toArray,List.set_cons_zero,List.set_cons_succ,List.getElem_toArray,List.getElem_cons_zero,List.getElem_cons_succ])
     | (refine zbi rfl 110 _ _ rfl w5.heap.size 0 (stC t).toArray rfl rfl (HZ.out _ (by rfl)) hi21 h1 (fun W => W.rangeAt w5.heap.size 0 t.now.cells /\ W.rangeAt w.heap.size 0 y.cells /\ Below (w.heap.size + 1) (w.alloc (.cells y.cells.toArray 91)) W) (H6.out _ (by rfl)) ?_;rintro w6 ⟨q1,q2,q3⟩)
     | (have hq:=m2;refine ze2 rfl 91 _ _ _ rfl _ _ rfl rfl Try.eqgSit _ (heq _) ?_)
     | (have hq:=m1;refine wpList_load_mid (w:=w6) rfl 91 _ rfl w.heap.size 0 rfl y.cells _ q2 Try.underlying91 rfl y1 ?_;simp only [Act.put,List.setIfInBounds_toArray,List.set_cons_zero,List.set_cons_succ,List.getElem_toArray,List.getElem_cons_zero,List.getElem_cons_succ];have m2 : True:=trivial)
     | (have hq:=q1;refine wpList_load_mid (w:=w6) rfl 91 _ rfl w5.heap.size 0 rfl t.now.cells _ q1 Try.underlying91 rfl t1 ?_;simp only [Act.put,List.setIfInBounds_toArray,List.set_cons_zero,List.set_cons_succ,List.getElem_toArray,List.getElem_cons_zero,List.getElem_cons_succ];have m1 : True:=trivial))
    go_roundw
    case rel => exact ⟨i + 1,by omega,by go_num,HST,q2,q3⟩
    case measure => simp [intOf];omega
  ·have hR1 : R = false:=by rw [HR.out];have:=hn.out;rw [List.take_of_length_le (by omega)] at this;exact this
   clear hn HR
   subst hR1
   go_wp2_with fail
   go_ret
   exact ⟨rfl,hbw⟩
end
section
open Go.RowKit
open Go.Lib (below_setCells)
def nxS (c : ChD) (s : SiD) (p : Nat) : Option SiD:=if mvB c s p = true then (if sfB c s p = true then some (aft s p) else none) else none
theorem zh5 {c : ChD} {s y : SiD} {p : Nat} (hs : s.ok) (h : nxS c s p = some y) : y.ok:=by
 unfold nxS at h
 split at h
 ·split at h
  ·cases h;exact zcs hs _
  ·cases h
 ·cases h
def touS (c : ChD) (k : Nat) : List (TS SiD):=tou (nxS c) (begD c) k
theorem zcq {c : ChD} (hc : c.ok) (k : Nat) : zbp (touS c k):=fun t ht => by
 obtain ⟨j,hj⟩:=List.getElem?_of_mem ht
 exact zc5 (P:=SiD.ok) (zbx hc) (fun s p y h1 h2 => zh5 h1 h2) k j t hj
def sitN (s : SiD) : Nat:=bitC s.has + 512 * bitC s.had
theorem zol {s t : SiD} (hs : s.ok) (ht : t.ok) (h : sitN s = sitN t) : s = t:=by
 unfold sitN at h
 have a:=zdc s.has
 have b:=zdc t.has
 rw [hs.1] at a
 rw [ht.1] at b
 rw [SiD.eq_iff]
 exact ⟨zfa _ _ (by rw [hs.1,ht.1]) (by omega),zfa _ _ (by rw [hs.2,ht.2]) (by omega)⟩
theorem zom {s : SiD} (hs : s.ok) : sitN s < 262144:=by
 have a:=zdc s.has
 have b:=zdc s.had
 rw [hs.1] at a
 rw [hs.2] at b
 unfold sitN;omega
theorem zjk {c : ChD} {L : List (TS SiD)} {t : Nat} (h : TInv (nxS c) L t) (hok : zbp L) : L.length <= 262144 :=
 h.len (P:=SiD.ok) (fun j a ha => hok a (List.mem_of_getElem? ha)) sitN (fun x y hx hy => zol hx hy) (fun x hx => zom hx)
theorem zjo {c : ChD} {L : List (TS SiD)} {k : Nat} {s : SiD} (hL : zbp L) (hs : s.ok) (p : Nat) : zbp (tin (nxS c) k s p L):=fun t ht => by
 obtain ⟨j,hj⟩:=List.getElem?_of_mem ht
 exact zey (P:=SiD.ok) (fun s p y h1 h2 => zh5 h1 h2) hs (fun j a ha => hL a (List.mem_of_getElem? ha)) p j t hj
theorem zfq {s : SiD} (h : s.ok) : ∃ a0 a1 a2 a3 a4 a5 a6 a7 a8 b0 b1 b2 b3 b4 b5 b6 b7 b8,s = ⟨[a0,a1,a2,a3,a4,a5,a6,a7,a8],[b0,b1,b2,b3,b4,b5,b6,b7,b8]⟩:=by
 obtain ⟨x,y⟩:=s
 obtain ⟨h1,h2⟩:=h
 obtain ⟨a0,a1,a2,a3,a4,a5,a6,a7,a8,rfl⟩:=zej h1
 obtain ⟨b0,b1,b2,b3,b4,b5,b6,b7,b8,rfl⟩:=zej h2
 exact ⟨a0,a1,a2,a3,a4,a5,a6,a7,a8,b0,b1,b2,b3,b4,b5,b6,b7,b8,rfl⟩
theorem zkt {s : SiD} (h : s.ok) (a b : Nat) : Try.prog.built 110 [(0,.agg s.cells.toArray),(1,.int .i64 a),(2,.int .i64 b)] = some (stC ⟨s,a,b⟩).toArray:=by
 obtain ⟨a0,a1,a2,a3,a4,a5,a6,a7,a8,b0,b1,b2,b3,b4,b5,b6,b7,b8,rfl⟩:=zfq h
 kernel_rfl
theorem zku {s : SiD} (h : s.ok) : Try.prog.built 110 [(0,.agg s.cells.toArray)] = some (stC ⟨s,0,0⟩).toArray:=by
 obtain ⟨a0,a1,a2,a3,a4,a5,a6,a7,a8,b0,b1,b2,b3,b4,b5,b6,b7,b8,rfl⟩:=zfq h
 kernel_rfl
theorem zkv (g n cap : Nat) {l : List Bool} (h : l.length = 9) : Try.prog.built 70 [(0,.slice (some ⟨g,0,none⟩) n cap),(1,.agg (l.map Value.bool).toArray)] = some (Value.slice (some ⟨g,0,none⟩) n cap :: l.map Value.bool).toArray:=by
 obtain ⟨b0,b1,b2,b3,b4,b5,b6,b7,b8,rfl⟩:=zej h
 kernel_rfl
theorem zgw {s : SiD} (h : s.ok) (a b : Nat) (W : World) : (Instr.buildSlice 68 1 #[(0,.agg (stC ⟨s,a,b⟩).toArray)]).run Try.prog W = .ok (.slice (some ⟨W.heap.size,0,none⟩) 1 1) (W.alloc (.cells (stC ⟨s,a,b⟩).toArray 110)):=by
 obtain ⟨a0,a1,a2,a3,a4,a5,a6,a7,a8,b0,b1,b2,b3,b4,b5,b6,b7,b8,rfl⟩:=zfq h
 kernel_rfl
theorem zj3 {P : Program} {ops : Array Oper} {rest : List Oper} {o : Oper} {a : Act} {w : World} {Q : Exit -> Act -> World -> Prop} (hg : o.guard = none) (t : TypeId) (len : Nat) (parts : Array (Nat × Operand)) (ho : o.op = .buildSlice t len parts) (qs : List (Nat × Value)) (hq : (parts.map fun (i,x) => (i,a.eval x)).toList = qs) (v : Value) (W : World) (hr : (Instr.buildSlice t len qs.toArray).run P w = .ok v W)
  (h : wpList P ops Q rest (a.put o.dst v) W) : wpList P ops Q (o :: rest) a w:=by
 have hq : (parts.map fun (i,x) => (i,a.eval x)) = qs.toArray:=by rw [<- hq]
 refine wpList_plain hg fun K hK => ?_
 unfold Oper.wp execOp
 simp only [ho,hq,Sem.run_bind,hr,Result.andThen_ok,Sem.run_pure]
 exact hK _ _ h
theorem zgj {P : Program} {ops : Array Oper} {rest : List Oper} {o : Oper} {a : Act} {w : World} {Q : Exit -> Act -> World -> Prop} (hg : o.guard = none) (t : TypeId) (parts : Array (Nat × Operand)) (ho : o.op = .build t parts) (qs : List (Nat × Value)) (hq : (parts.map fun (i,x) => (i,a.eval x)).toList = qs) (cs : Array Value) (hr : P.built t qs = some cs)
  (h : wpList P ops Q rest (a.put o.dst (.agg cs)) w) : wpList P ops Q (o :: rest) a w :=
 wpList_buildTo hg t parts ho _ rfl cs (by rw [hq];exact hr) h
theorem ChD.ok.get_wnt {c : ChD} (h : c.ok) {p : Nat} {b : Bool} (hp : c.wnt[p]? = some b) : c.bits[18 + p]? = some b:=by
 have hl:=(List.getElem?_eq_some_iff.1 hp).1
 rw [ChD.bits,List.getElem?_append_right (by rw [h.thr];omega),h.thr,List.getElem?_append_right (by rw [h.fst];omega),h.fst,show 18 + p - 9 - 9 = p by omega,List.getElem?_append_left hl];exact hp
theorem zfy {w : World} {base : Nat} {e : TypeId} {size : Nat} {g n cap : Nat} {xs : List Value} (h : w.ownsRow base e size (.slice (some ⟨g,0,none⟩) n cap) n xs) : w.rangeAt g 0 xs:=fun j v hj => by
 rw [Nat.zero_add,h.cellAt j (by rw [<- h.1];exact (List.getElem?_eq_some_iff.1 hj).1)];exact hj
end
end Go.Proofs.Ytkkekopomiehlab
