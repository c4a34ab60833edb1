import Derived.Test.YtkkekopomiehlabHFt5
set_option linter.unusedVariables false
set_option linter.unusedSimpArgs false
set_option maxHeartbeats 40000000
namespace Go.Proofs.Ytkkekopomiehlab
section
set_option maxRecDepth 4000
open Go.RowKit
def RowT (S : Nat -> Prop) (w : World) (xs : List Value) (es : List (ByteArray × Ty)) : Prop :=
 xs.length = es.length * 5 /\ ∀ i e,es[i]? = some e -> ∃ p1 p2 p3 q1 q2 q3,RepB S e.1.size w p1 p2 p3 q1 q2 q3 e.2 /\ xs[i * 5]? = some (.int .i64 e.2.kind) /\
      xs[i * 5 + 1]? = some (.string e.2.letters) /\ xs[i * 5 + 2]? = some (.bool e.2.op) /\ xs[i * 5 + 3]? = some (.slice p1 p2 p3) /\ xs[i * 5 + 4]? = some (.slice q1 q2 q3)
theorem RowT.keep {S : Nat -> Prop} {w w' : World} {xs : List Value} {es : List (ByteArray × Ty)} (h : RowT S w xs es) (hb : ∀ b o v,S b -> w.cell? ⟨b,o,none⟩ = some v -> w'.cell? ⟨b,o,none⟩ = some v) : RowT S w' xs es :=
 ⟨h.1,fun i f hi => by obtain ⟨p1,p2,p3,q1,q2,q3,h1,h2⟩:=h.2 i f hi;exact ⟨p1,p2,p3,q1,q2,q3,h1.keep hb,h2⟩⟩
theorem RowT.imp {S S' : Nat -> Prop} {w : World} {xs : List Value} {es : List (ByteArray × Ty)} (h : RowT S w xs es) (hS : ∀ b,b < w.heap.size -> S b -> S' b) : RowT S' w xs es :=
 ⟨h.1,fun i f hi => by obtain ⟨p1,p2,p3,q1,q2,q3,h1,h2⟩:=h.2 i f hi;exact ⟨p1,p2,p3,q1,q2,q3,h1.imp hS,h2⟩⟩
theorem RowT.nil {S : Nat -> Prop} {w : World} : RowT S w [] []:=⟨rfl,fun i f hi => by simp at hi⟩
theorem RowT.snoc {S : Nat -> Prop} {w : World} {xs : List Value} {es : List (ByteArray × Ty)} (h : RowT S w xs es) {e : ByteArray × Ty} {p1 q1 : Option Addr} {p2 p3 q2 q3 : Nat} (hr : RepB S e.1.size w p1 p2 p3 q1 q2 q3 e.2) :
  RowT S w (xs ++ [.int .i64 e.2.kind,.string e.2.letters,.bool e.2.op,.slice p1 p2 p3,.slice q1 q2 q3]) (es ++ [e]):=by
 refine ⟨by simp [h.1];omega,fun i g hi => ?_⟩
 by_cases hl : i < es.length
 ·rw [List.getElem?_append_left hl] at hi
  obtain ⟨a1,a2,a3,b1,b2,b3,h1,h2⟩:=h.2 i g hi
  have hx:=h.1
  refine ⟨a1,a2,a3,b1,b2,b3,h1,?_⟩
  rw [List.getElem?_append_left (by omega),List.getElem?_append_left (by omega),List.getElem?_append_left (by omega),List.getElem?_append_left (by omega),List.getElem?_append_left (by omega)]
  exact h2
 ·rw [List.getElem?_append_right (by omega)] at hi
  obtain rfl : i = es.length:=by
   rcases Nat.eq_or_lt_of_le (Nat.le_of_not_lt hl) with h | h
   ·exact h.symm
   ·rw [List.getElem?_eq_none (by simp;omega)] at hi;cases hi
  simp at hi
  subst hi
  have hx:=h.1
  refine ⟨p1,p2,p3,q1,q2,q3,hr,?_⟩
  rw [<- hx]
  refine ⟨?_,?_,?_,?_,?_⟩ <;> (rw [List.getElem?_append_right (by omega)];simp)
theorem zn3 {H g g' : Nat} {wr w1 w2 w3 : World} {xs : List Value} {acc : List (ByteArray × Ty)} {f : ByteArray × Ty} {ai af : Option Addr} {li ci lf cf : Nat}
  (hrow : RowT (fun b => H <= b /\ b ≠ g) wr xs acc) (hr1 : RepB (fun b => wr.heap.size <= b) f.1.size w1 ai li ci af lf cf f.2) (hb1 : Below wr.heap.size wr w1) (hb2 : Below w1.heap.size w1 w2)
  (hgrow : w2.grownBy w3 (some g)) (hat : some g = some g' \/ g' = w2.heap.size) (hH : H <= wr.heap.size) (hg : g < wr.heap.size) :
  RowT (fun b => H <= b /\ b ≠ g') w3 (xs ++ [.int .i64 f.2.kind,.string f.2.letters,.bool f.2.op,.slice ai li ci,.slice af lf cf]) (acc ++ [f]):=by
 have z1:=hb1.size
 have z2:=hb2.size
 have hg' : g' = g \/ g' = w2.heap.size:=by
  rcases hat with h | h
  ·left;cases h;rfl
  ·exact .inr h
 have tr : ∀ b o v,b ≠ g -> w1.cell? ⟨b,o,none⟩ = some v -> w3.cell? ⟨b,o,none⟩ = some v:=fun b o v hne h =>
  hgrow.cell (zaa hb2 h) (fun e => hne (by cases e;rfl))
 have h1 : RowT (fun b => H <= b /\ b ≠ g /\ b ≠ g') wr xs acc:=hrow.imp (fun b hb h => ⟨h.1,h.2,by omega⟩)
 have h2 : RowT (fun b => H <= b /\ b ≠ g') w3 xs acc:=(h1.keep (fun b o v hS h => tr b o v hS.2.1 (zaa hb1 h))).imp (fun b _ h => ⟨h.1,h.2.2⟩)
 have h3 : RepB (fun b => H <= b /\ b ≠ g /\ b ≠ g') f.1.size w1 ai li ci af lf cf f.2:=hr1.imp (fun b hb h => by refine ⟨?_,?_,?_⟩ <;> omega)
 exact h2.snoc ((h3.keep (fun b o v hS h => tr b o v hS.2.1 h)).imp (fun b _ h => ⟨h.1,h.2.2⟩))
def TysAt (w : World) (g : Nat) (es : List (ByteArray × Ty)) : Prop:=∀ i e,es[i]? = some e -> ∃ p1 p2 p3 q1 q2 q3,Rep e.1.size w p1 p2 p3 q1 q2 q3 e.2 /\ w.cell? ⟨g,i * 5,none⟩ = some (.int .i64 e.2.kind) /\
      w.cell? ⟨g,i * 5 + 1,none⟩ = some (.string e.2.letters) /\ w.cell? ⟨g,i * 5 + 2,none⟩ = some (.bool e.2.op) /\ w.cell? ⟨g,i * 5 + 3,none⟩ = some (.slice p1 p2 p3) /\ w.cell? ⟨g,i * 5 + 4,none⟩ = some (.slice q1 q2 q3)
theorem zpf {S : Nat -> Prop} {base g cap : Nat} {w : World} {xs : List Value} {es : List (ByteArray × Ty)} (hown : w.ownsRow base 99 5 (.slice (some ⟨g,0,none⟩) es.length cap) es.length xs) (h : RowT S w xs es) : TysAt w g es:=fun i e hi => by
 obtain ⟨p1,p2,p3,q1,q2,q3,h1,k0,k1,k2,k3,k4⟩:=h.2 i e hi
 exact ⟨p1,p2,p3,q1,q2,q3,h1.rep,za2 hown k0,za2 hown k1,za2 hown k2,za2 hown k3,za2 hown k4⟩
theorem TysAt.keep {w w' : World} (hb : Below w.heap.size w w') {g : Nat} {es : List (ByteArray × Ty)} (h : TysAt w g es) : TysAt w' g es:=fun i e hi => by
 obtain ⟨p1,p2,p3,q1,q2,q3,h1,k0,k1,k2,k3,k4⟩:=h i e hi
 exact ⟨p1,p2,p3,q1,q2,q3,h1.keep hb,zaa hb k0,zaa hb k1,zaa hb k2,zaa hb k3,zaa hb k4⟩
def tabI (ss : List ByteArray) (i j : Nat) : Bool:=match ss[i]?,ss[j]? with
 | some s,some t => fitB s t
 | _,_ => false
def za4 (ss : List ByteArray) : List (List Bool):=(List.range 8).map fun i => (List.range 8).map (tabI ss i)
theorem zc2 (ss : List ByteArray) : tabOk (za4 ss):=by
 refine ⟨by simp [za4],fun r hr => ?_⟩
 obtain ⟨i,_,rfl⟩:=List.mem_map.1 hr
 simp
def zbg (ss : List ByteArray) (i j : Nat) : List Bool:=(List.range 64).map fun k => decide (k < i * 8 + j) && tabI ss (k / 8) (k % 8)
theorem zb4 (ss : List ByteArray) (i j : Nat) : (zbg ss i j).length = 64:=by simp [zbg]
theorem zc3 (ss : List ByteArray) (i j k : Nat) (hk : k < 64) : (zbg ss i j)[k]? = some (decide (k < i * 8 + j) && tabI ss (k / 8) (k % 8)):=by
 rw [zbg,List.getElem?_map,List.getElem?_range hk];rfl
theorem zga {ss : List ByteArray} {i j : Nat} (h : ss.length <= i \/ ss.length <= j) : tabI ss i j = false:=by
 unfold tabI
 rcases h with h | h
 ·rw [List.getElem?_eq_none h]
 ·rw [List.getElem?_eq_none h];split <;> first | rfl | (rename_i h1;cases h1)
theorem zox (ss : List ByteArray) : zbg ss 0 0 = List.replicate 64 false:=by
 apply List.ext_getElem?
 intro k
 by_cases hk : k < 64
 ·rw [zc3 _ _ _ _ hk,List.getElem?_replicate,if_pos hk];simp
 ·rw [List.getElem?_eq_none (by rw [zb4];omega),List.getElem?_eq_none (by simp;omega)]
theorem zow (ss : List ByteArray) {i j : Nat} (hi : i < 8) (hj : j < 8) : zbg ss i (j + 1) = (zbg ss i j).set (i * 8 + j) (tabI ss i j):=by
 apply List.ext_getElem?
 intro k
 by_cases hk : k < 64
 ·rw [zc3 _ _ _ _ hk,List.getElem?_set]
  by_cases hki : i * 8 + j = k
  ·subst hki
   rw [if_pos rfl,if_pos (by rw [zb4];omega),show (i * 8 + j) / 8 = i by omega,show (i * 8 + j) % 8 = j by omega]
   simp [show i * 8 + j < i * 8 + (j + 1) by omega]
  ·rw [if_neg hki,zc3 _ _ _ _ hk]
   by_cases h : k < i * 8 + j
   ·simp [h,show k < i * 8 + (j + 1) by omega]
   ·simp [h,show ¬ k < i * 8 + (j + 1) by omega]
 ·rw [List.getElem?_eq_none (by rw [zb4];omega),List.getElem?_eq_none (by rw [List.length_set,zb4];omega)]
theorem zov (ss : List ByteArray) {i : Nat} (hl : ss.length <= 8) : zbg ss i ss.length = zbg ss (i + 1) 0:=by
 apply List.ext_getElem?
 intro k
 by_cases hk : k < 64
 ·rw [zc3 _ _ _ _ hk,zc3 _ _ _ _ hk]
  by_cases h : k < i * 8 + ss.length
  ·rw [show decide (k < i * 8 + ss.length) = true by simp [h],show decide (k < (i + 1) * 8 + 0) = true by simp;omega]
  ·by_cases h2 : k < (i + 1) * 8
   ·rw [zga (ss:=ss) (j:=k % 8) (.inr (by omega))];simp
   ·simp [h,h2]
 ·rw [List.getElem?_eq_none (by rw [zb4];omega),List.getElem?_eq_none (by rw [zb4];omega)]
theorem zou (ss : List ByteArray) (hl : ss.length <= 8) : zbg ss ss.length 0 = (za4 ss).flatten:=by
 apply List.ext_getElem?
 intro k
 by_cases hk : k < 64
 ·have hr : (za4 ss)[k / 8]? = some ((List.range 8).map (tabI ss (k / 8))):=by rw [za4,List.getElem?_map,List.getElem?_range (by omega)];rfl
  have hf:=zfk (za4 ss) (k / 8) (k % 8) _ (zc2 ss).2 hr (by omega)
  rw [show k / 8 * 8 + k % 8 = k by omega] at hf
  rw [hf,zc3 _ _ _ _ hk,List.getElem?_map,List.getElem?_range (by omega)]
  by_cases h : k < ss.length * 8
  ·simp [h]
  ·rw [zga (ss:=ss) (i:=k / 8) (.inl (by omega))];simp [zga (ss:=ss) (i:=k / 8) (j:=k % 8) (.inl (by omega))]
 ·rw [List.getElem?_eq_none (by rw [zb4];omega),List.getElem?_eq_none (by rw [zfl _ (zc2 ss).2,(zc2 ss).1];omega)]
end
section
set_option maxRecDepth 8000
open Go.RowKit
open Go.Lib (below_setCells)
theorem Try.infoTyp : (Try.prog.info? 99).map (fun i => (i.zero,i.size,i.bytes)) = some (some (.agg #[.int .i64 0,.string ⟨#[]⟩,.bool false,.slice none 0 0,.slice none 0 0]),5,80):=by kernel_rfl
theorem zlu (w : World) (o1 o2 : Obj) : ((w.alloc o1).alloc o2).heap[w.heap.size + 1]? = some o2:=by
 have:=zan (w.alloc o1) o2
 rw [za9] at this;exact this
theorem zkb {s : ByteArray} {x : Ty} (hs : s.size <= 60) (hx : pAll false s = some x) (w : World) :
  Calls Try.prog 52 #[.string s] w fun e w' => ∃ ai li ci af lf cf,e = .returned (.tuple #[.agg #[.int .i64 x.kind,.string x.letters,.bool x.op,.slice ai li ci,.slice af lf cf],.bool true]) /\ RepB (fun b => w.heap.size <= b) s.size w' ai li ci af lf cf x /\ Below w.heap.size w w':=by
 refine (zgn hs w).mono ?_
 rintro e w' ⟨h,hb⟩
 rw [hx] at h
 obtain ⟨ai,li,ci,af,lf,cf,h1,h2⟩:=h
 exact ⟨ai,li,ci,af,lf,cf,h1,h2,hb⟩
theorem zpo {s t : ByteArray} {x r : Ty} (hs : s.size <= 60) (hx : pAll false s = some x) (hr : pAll false t = some r) (w : World) (ai af : Option Addr) (li ci lf cf : Nat) (bi bf : Option Addr) (mi di mf df : Nat) (h1 : Rep s.size w ai li ci af lf cf x) (h2 : Rep t.size w bi mi di bf mf df r) :
  Calls Try.prog 48 #[.agg #[.int .i64 x.kind,.string x.letters,.bool x.op,.slice ai li ci,.slice af lf cf],.agg #[.int .i64 r.kind,.string r.letters,.bool r.op,.slice bi mi di,.slice bf mf df]] w fun e w' => ∃ y : ByteArray,e = .returned (.tuple #[.string y,.bool (!fitB s t)]) /\ Below w.heap.size w w':=by
 have hK:=zjv _ _ _ _ (zh7 (show pAll true s = some x by rw [zmz];exact hx))
 have:=zjy (s.size + t.size) s.size t.size x r w ai af li ci lf cf bi bf mi di mf df (Nat.le_refl _) hK (zm0 hx hs _) h1 h2
 refine this.mono ?_
 rintro e w' ⟨rfl,hb⟩
 have hf : fitB s t = (unV (s.size + t.size) s.size x r).isNone:=by unfold fitB;rw [hx,hr]
 rw [hf,zd0]
 refine ⟨outU ((unV (s.size + t.size) s.size x r).map (txtV s.size x)),?_,hb⟩
 cases unV (s.size + t.size) s.size x r <;> rfl
theorem zn0 (ss : List ByteArray) (hok : zb0 ss = true) (w : World) (a : Option Addr) (cap : Nat) (hp : StrsAt w a ss) :
  Calls Try.prog 38 #[.slice a ss.length cap] w fun e W => e = .returned (.agg (tabC (za4 ss)).toArray) /\ Below w.heap.size w W:=by
 unfold zb0 at hok
 rw [Bool.and_eq_true,List.all_eq_true] at hok
 have hl8 : ss.length <= 8:=of_decide_eq_true hok.1
 have hgood : ∀ s ∈ ss,s.size <= 60 /\ ∃ x,pAll false s = some x:=fun s hs => by
  have:=hok.2 s hs
  unfold schB at this
  rw [Bool.and_eq_true] at this
  exact ⟨of_decide_eq_true this.1,Option.isSome_iff_exists.1 this.2⟩
 have HG:= zab hgood
 have HP:= zab hp
 clear hok hgood hp
 obtain ⟨i0,hi0,hz0,hzz1,hzz2⟩:=info_parts Try.infoTyp
 go_enter Try.func38,Try.ntmps38
 go_wp2_with fail
 generalize hO : (Obj.cells #[.bool false,.bool false,.bool false,.bool false,.bool false,.bool false,.bool false,.bool false,.bool false,.bool false,.bool false,.bool false,.bool false,.bool false,.bool false,.bool false,.bool false,.bool false,.bool false,.bool false,.bool false,.bool false,.bool false,.bool false,.bool false,.bool false,.bool false,.bool false,.bool false,.bool false,.bool false,.bool false,.bool false,.bool false,.bool false,.bool false,.bool false,.bool false,.bool false,.bool false,.bool false,.bool false,.bool false,.bool false,.bool false,.bool false,.bool false,.bool false,.bool false,.bool false,.bool false,.bool false,.bool false,.bool false,.bool false,.bool false,.bool false,.bool false,.bool false,.bool false,.bool false,.bool false,.bool false,.bool false] 86) = O
 have HO:= zab hO
 clear hO
 go_loopw [3,18] (fun vt vi wr => ∃ (i g cap : Nat) (es : List (ByteArray × Ty)) (xs : List Value),i <= ss.length /\ vi = .int .i64 i /\ vt = .slice (some ⟨g,0,none⟩) es.length cap /\ es.length = i /\
   wr.ownsRow (w.heap.size + 1) 99 5 (.slice (some ⟨g,0,none⟩) es.length cap) es.length xs /\ RowT (fun b => w.heap.size + 1 <= b /\ b ≠ g) wr xs es /\ Hid (es.map Prod.fst = ss.take i) /\ Hid (∀ e ∈ es,pAll false e.1 = some e.2) /\
   Below (w.heap.size + 1) (w.alloc O) wr) (fun _ i _ => ss.length - (intOf i).toNat)
 case atStart =>
  refine ⟨0,w.heap.size + 1,0,[],[],Nat.zero_le _,rfl,rfl,rfl,?_,RowT.nil,(by show _ = _;rfl),(fun e he => by simp at he),(Below.refl (w.heap.size + 1) _).alloc (by simp) _⟩
  have h:=World.ownsRow_made (base:=w.heap.size + 1) (e:=99) (size:=5) (w.alloc O) #[] 0 (by simp) (by unfold maxLen;omega) rfl
  rw [za9] at h;exact h
 case round =>
  obtain ⟨i,g,cp,es,xs,hi,rfl,rfl,hel,hown,hrow,hmap,hpa,hb⟩:=hrel
  rename World => w5
  have z5:=hb.size
  rw [za9] at z5
  have hbw : Below w.heap.size w w5:=(belS w O).trans (hb.mono (by simp))
  obtain ⟨hg1,hg2⟩:=hown.lt g rfl
  have hx0 := znn i
  by_cases hlt : i < ss.length
  ·obtain ⟨s,hsi⟩ : ∃ s,ss[i]? = some s:=⟨ss[i],List.getElem?_eq_getElem hlt⟩
   obtain ⟨b,o,rfl,c0⟩:=HP.out i s hsi
   have c0:=zaa hbw c0
   have hbl:=zaj c0
   obtain ⟨hs60,x,hx⟩:=HG.out s (List.mem_of_getElem? hsi)
   have hcall:=fun W => zkb hs60 hx W
   have hx1 : (i : Int) < (ss.length : Int):=by omega
   have HEL:= zab hel
   have hel8 : es.length <= 8:=by omega
   have HSI:= zab hsi
   have HX:= zab hx
   have HROW:= zab hrow
   have HOWN:= zab hown
   clear hsi hx hrow hown hel
   go_wp2_with (first
    | (go_at_call 52;refine (hcall _).mono ?_;rintro e w1 ⟨ai,li,ci,af,lf,cf,rfl,hr1,hb1⟩;have hz1 : w5.heap.size <= w1.heap.size:=hb1.size)
    | (at_builtin;refine wpList_append_lies _ rfl _ _ _ rfl (w.heap.size + 1) 99 i0 _ 5 80 Try.underlying96 hi0 hz0 hzz1 hzz2 rfl (by omega) _ es.length xs rfl (((zci HOWN.out hb1).alloc _).alloc _) ⟨w1.heap.size + 1,0,none⟩ 1 1 [.int .i64 x.kind,.string x.letters,.bool x.op,.slice ai li ci,.slice af lf cf] rfl rfl (World.news_of_block (zlu w1 _ _)) (by simp [Value.oneCell']) (by omega) (by unfold maxLen;omega) (by omega) (by simp;omega) (w1.heap.size + 2) (by simp) ?_;intro g' cap' w3 hown' hgrow hat hlt3))
   go_roundw
   case rel =>
    have hl : (es ++ [(s,x)]).length = es.length + 1:=by simp
    rw [<- hl] at hown'
    have hr3:=zn3 (f:=(s,x)) HROW.out hr1 hb1 (bx w1 _ _) hgrow (by rcases hat with h | h;exact .inl h;right;simpa using h) (by omega) hg2
    refine ⟨i + 1,g',cap',es ++ [(s,x)],_,by omega,by go_num,by rw [hl],by rw [hl,HEL.out],hown',hr3,?_,?_,?_⟩
    ·show _ = _
     rw [List.map_append,hmap.out,List.take_add_one,HSI.out];rfl
    ·intro e he
     rcases List.mem_append.1 he with h | h
     ·exact hpa.out e h
     ·simp at h;subst h;exact HX.out
    ·exact Below.grown (((hb.trans (hb1.mono (by omega))).alloc (by omega) _).alloc (by simp;omega) _) hgrow (by simp;omega) (fun k hk => by cases hk;omega)
   case measure => simp [intOf];omega
  ·have hie : i = ss.length:=by omega
   have hty:=zpf hown hrow
   have hms : es.map Prod.fst = ss:=by rw [hmap.out,hie,List.take_length]
   have HTY:= zab hty
   have HMS:= zab hms
   clear hty hms hmap hown hrow
   have hesl : es.length <= 8:=by omega
   have HEL:= zab hel
   have HIE:= zab hie
   clear hel hie
   have hrowR : RowIs w5 w.heap.size 86 ((List.replicate 64 false).map .bool):=by
    refine RowIs.keep (w:=w.alloc O) ?_ (hb.mono (by simp))
    rw [<- HO.out];exact zan w _
   have hrow0 : RowIs (w5.alloc O) w5.heap.size 86 ((zbg ss 0 0).map .bool):=by
    rw [zox,<- HO.out];exact zan w5 _
   have HRR:= zab hrowR
   have HR0:= zab hrow0
   clear hrowR hrow0
   go_wp2_with fail
   generalize hO2 : (Obj.cells #[.bool false,.bool false,.bool false,.bool false,.bool false,.bool false,.bool false,.bool false,.bool false,.bool false,.bool false,.bool false,.bool false,.bool false,.bool false,.bool false,.bool false,.bool false,.bool false,.bool false,.bool false,.bool false,.bool false,.bool false,.bool false,.bool false,.bool false,.bool false,.bool false,.bool false,.bool false,.bool false,.bool false,.bool false,.bool false,.bool false,.bool false,.bool false,.bool false,.bool false,.bool false,.bool false,.bool false,.bool false,.bool false,.bool false,.bool false,.bool false,.bool false,.bool false,.bool false,.bool false,.bool false,.bool false,.bool false,.bool false,.bool false,.bool false,.bool false,.bool false,.bool false,.bool false,.bool false,.bool false] 86) = O2
   have hOO : O2 = O:=by rw [<- hO2];exact HO.out
   subst hOO
   clear hO2
   go_loopw [34] (fun vi wr => ∃ i : Nat,i <= es.length /\ vi = .int .i64 i /\ RowIs wr w5.heap.size 86 ((zbg ss i 0).map .bool) /\ Below w5.heap.size w5 wr) (fun i _ => es.length - (intOf i).toNat)
   case atStart => exact ⟨0,Nat.zero_le _,rfl,HR0.out,belS _ _⟩
   case round =>
    obtain ⟨i,hi,rfl,hrow,hbi⟩:=hrel
    rename World => w6
    have hz6:=hbi.size
    have hx0 := znn i
    by_cases hlt : i < es.length
    ·obtain ⟨e1,he1⟩ : ∃ e,es[i]? = some e:=⟨es[i],List.getElem?_eq_getElem hlt⟩
     obtain ⟨p1,p2,p3,q1,q2,q3,rep1,a0,a1,a2,a3,a4⟩:=HTY.out i e1 he1
     have a0:=zaa hbi a0
     have a1:=zaa hbi a1
     have a2:=zaa hbi a2
     have a3:=zaa hbi a3
     have a4:=zaa hbi a4
     have hx1 : (i : Int) < (es.length : Int):=by omega
     have HE1:= zab he1
     have hal:=zaj a0
     have HROW:= zab hrow
     have hrl:=hrow.lt
     clear he1 hrow
     have hbx0:=zan w6 (.cells #[.int .i64 e1.2.kind,.string e1.2.letters,.bool e1.2.op,.slice p1 p2 p3,.slice q1 q2 q3] 99)
     have hwb : RowIs (w6.alloc (.cells #[.int .i64 e1.2.kind,.string e1.2.letters,.bool e1.2.op,.slice p1 p2 p3,.slice q1 q2 q3] 99)) w6.heap.size 99 [.int .i64 e1.2.kind,.string e1.2.letters,.bool e1.2.op,.slice p1 p2 p3,.slice q1 q2 q3]:=hbx0
     have HWB:= zab hwb
     have HREP:= zab rep1
     clear hbx0 hwb rep1
     go_wp2_with fail
     clear a0 a1 a2 a3 a4
     go_loopw [41] (fun vj wr => ∃ j : Nat,j <= es.length /\ vj = .int .i64 j /\ RowIs wr w5.heap.size 86 ((zbg ss i j).map .bool) /\ RowIs wr w6.heap.size 99 [.int .i64 e1.2.kind,.string e1.2.letters,.bool e1.2.op,.slice p1 p2 p3,.slice q1 q2 q3] /\ Below w5.heap.size w5 wr) (fun j _ => es.length - (intOf j).toNat)
     case atStart => exact ⟨0,Nat.zero_le _,rfl,HROW.out.keep (belS _ _),HWB.out,hbi.alloc hz6 _⟩
     case round =>
      obtain ⟨j,hj,rfl,hrow,hwb,hbj⟩:=hrel
      have hrep:=(zab (HREP.out.keep hbj))
      have hz7:=hbj.size
      have hy0 := znn j
      by_cases hjl : j < es.length
      ·obtain ⟨e2,he2⟩ : ∃ e,es[j]? = some e:=⟨es[j],List.getElem?_eq_getElem hjl⟩
       obtain ⟨m1,m2,m3,n1,n2,n3,rep2,a0,a1,a2,a3,a4⟩:=HTY.out.keep hbj j e2 he2
       have hy1 : (j : Int) < (es.length : Int):=by omega
       have hal:=zaj a0
       have hwl:=hwb.lt
       have hs1 : ss[i]? = some e1.1:=by rw [<- HMS.out,List.getElem?_map,HE1.out];rfl
       have hs2 : ss[j]? = some e2.1:=by rw [<- HMS.out,List.getElem?_map,he2];rfl
       have hcall:=fun W (h : Below wr.heap.size wr W) => zpo (HG.out e1.1 (List.mem_of_getElem? hs1)).1 (hpa.out e1 (List.mem_of_getElem? HE1.out)) (hpa.out e2 (List.mem_of_getElem? he2)) W p1 q1 p2 p3 q2 q3 m1 n1 m2 m3 n2 n3 (hrep.out.keep h) (rep2.keep h)
       have hi8 : i < 8:=by omega
       have hj8 : j < 8:=by omega
       have hi8' : (i : Int) < 8:=by omega
       have hj8' : (j : Int) < 8:=by omega
       have hst:=zow ss hi8 hj8
       have htI : tabI ss i j = fitB e1.1 e2.1:=by unfold tabI;rw [hs1,hs2]
       rw [htI] at hst
       have HST:= zab hst
       have hcl : wr.cell? ⟨w5.heap.size,i * 8 + j,none⟩ = some (.bool ((zbg ss i j)[i * 8 + j]'(by rw [zb4];omega))):=hrow.cell (by rw [List.getElem?_map,List.getElem?_eq_getElem (by rw [zb4];omega)];rfl)
       generalize (zbg ss i j)[i * 8 + j]'(by rw [zb4];omega) = u0 at hcl
       have hfz:=hrow.frozen (i * 8 + j)
       have b0:=hwb.cell (j:=0) rfl
       have b1:=hwb.cell (j:=1) rfl
       have b2:=hwb.cell (j:=2) rfl
       have b3:=hwb.cell (j:=3) rfl
       have b4:=hwb.cell (j:=4) rfl
       have HROW:= zab hrow
       have HWB:= zab hwb
       have HREP2:= zab rep2
       have hne5 : w5.heap.size ≠ w6.heap.size:=fun h => by have:=hrl;omega
       have hrl7:=hrow.lt
       clear hrow hwb he2 hs1 hs2 htI hst rep2
       generalize fitB e1.1 e2.1 = F at hcall HST
       go_wp2_with (go_at_call 48;refine (hcall _ (belS _ _)).mono ?_;rintro e w9 ⟨y9,rfl,hb9⟩;have k1:=zaa hb9 (zar (.cells #[.int .i64 e2.2.kind,.string e2.2.letters,.bool e2.2.op,.slice m1 m2 m3,.slice n1 n2 n3] 99) hcl);have k2 : w9.frozen? ⟨w5.heap.size,i * 8 + j,none⟩ = false:=((HROW.out.keep (belS wr (.cells #[.int .i64 e2.2.kind,.string e2.2.letters,.bool e2.2.op,.slice m1 m2 m3,.slice n1 n2 n3] 99))).keep hb9).frozen _)
       go_roundw
       case rel =>
        have hb8:=thn3 (belS wr (.cells #[.int .i64 e2.2.kind,.string e2.2.letters,.bool e2.2.op,.slice m1 m2 m3,.slice n1 n2 n3] 99)) hb9
        have r9:=(HROW.out.keep hb8).set (i * 8 + j) (.bool F)
        rw [<- List.map_set,<- HST.out] at r9
        exact ⟨j + 1,by omega,by go_num,r9,(HWB.out.keep hb8).setOther (show w5.heap.size ≠ w6.heap.size from hne5) _,(hbj.trans (hb8.mono hz7)).setCell (Nat.le_refl _) _⟩
       case measure => simp [intOf];omega
      ·have hje : j = ss.length:=by have:=congrArg List.length HMS.out;rw [List.length_map] at this;omega
       have hesl2 : es.length = ss.length:=by have:=congrArg List.length HMS.out;rw [List.length_map] at this;exact this
       rw [hje,zov ss hl8] at hrow
       have HR9:= zab hrow
       have HJE:= zab hje
       clear hje hesl2 hrow hwb hrep
       go_wp2_with fail
       go_roundw
       case rel => exact ⟨i + 1,by omega,by go_num,HR9.out,hbj⟩
       case measure => simp [intOf];omega
    ·have hie2 : i = ss.length:=by have:=congrArg List.length HMS.out;rw [List.length_map] at this;omega
     rw [hie2,zou ss hl8] at hrow
     obtain ⟨C,hCe⟩ : ∃ C,C = tabC (za4 ss):=⟨_,rfl⟩
     have hrow : RowIs w6 w5.heap.size 86 C:=by rw [hCe];exact hrow
     have hCl : C.length = 64:=by rw [hCe];exact (zc2 ss).len
     have hr6:=za0 hrow
     have ht6 : w6.there w.heap.size 0 C.toArray.size:=by
      rw [show C.toArray.size = 64 by simpa using hCl]
      have:=zbh (HRR.out.keep hbi)
      simpa using this
     have hi6 : (Try.prog.info? 86).map (·.size) = some C.length:=by rw [hCe];exact (zc2 ss).info
     have hi7 : (Try.prog.info? 86).map (·.size) = some C.toArray.size:=by rw [List.size_toArray];exact hi6
     have h16 : C.toArray.all (·.oneCell') = true:=by rw [hCe];exact zb6 _
     have hbF:=hbw.trans (hbi.mono hbw.size)
     have HCe:= zab hCe
     clear hCe hrow hCl hie2
     go_wp2_with (first
      | (refine wpList_load_mid (w:=w6) rfl 86 _ rfl w5.heap.size 0 rfl C _ hr6 Try.underlying86 rfl hi6 ?_)
      | (refine wpList_store_mid (w:=w6) rfl 86 _ _ rfl w.heap.size 0 C.toArray rfl rfl ht6 hi7 h16 ?_))
     have hrs:=World.rangeAt_setCells_same w6 w.heap.size 0 C (by simpa using ht6)
     refine bodyPost_ret (v:=.agg C.toArray) ?_ rfl ⟨by rw [HCe.out],below_setCells w.heap.size (Nat.le_refl _) _ _ hbF⟩
     have hlv:=run_loadVar_mid (P:=Try.prog) _ w.heap.size 0 86 C _ hrs Try.underlying86 rfl hi6
     simp [results,Try.results38,asAddr,Act.put,hlv]
end
end Go.Proofs.Ytkkekopomiehlab
