import Derived.Test.YtkkekopomiehlaaGreatCSf15
import Derived.Test.YtkkekopomiehlaaGreatCSf9
import Derived.Test.YtkkekopomiehlaaGreatCLp1
set_option linter.unusedVariables false
set_option linter.unusedSimpArgs false
set_option maxHeartbeats 40000000
set_option maxRecDepth 4000
namespace Go.Proofs.YtkkekopomiehlaaGreat
section
set_option maxRecDepth 16000
open Go.RowKit
open Go.Lib (below_setCells)
theorem zrj {c : ChD} {K : Nat} (h : (touS c K).length <= K) : ∀ d,touS c (K + d) = touS c K
 | 0 => rfl
 | d + 1 => by
  have ih:=zrj h d
  have : (touS c (K + d))[K + d]? = none:=by rw [ih];exact List.getElem?_eq_none (by omega)
  show tou (nxS c) (begD c) (K + d + 1) = _
  rw [tou]
  unfold touS at this
  rw [this];exact ih
def zav (c : ChD) : List (TS SiD):=touS c 262144
theorem zek {c : ChD} (hc : c.ok) {K : Nat} (h : (touS c K).length = K) : touS c K = zav c:=by
 have hl:=zej hc (k:=K) (by omega)
 have:=zrj (c:=c) (K:=K) (by omega) (262144 - K)
 rw [show K + (262144 - K) = 262144 by omega] at this
 exact this.symm
theorem zrl {c : ChD} (hc : c.ok) : zc8 (zav c):=ze7 hc _
theorem zlu (g n cap : Nat) (wn : List Bool) : (zan g n cap wn).toArray.all (·.oneCell') = true:=all_oneCell_toArray fun v hv => by
 rcases List.mem_cons.1 hv with rfl | hv
 ·rfl
 ·obtain ⟨b,_,rfl⟩:=List.mem_map.1 hv;rfl
def FirstAt (L : List (TS SiD)) (wn : List Bool) (ms : List (Int × Int)) : Prop :=
 ∃ (k D : Nat) (v : Nat -> Nat) (t : TS SiD),L[k]? = some t /\ t.now.has = wn /\ (∀ (i : Nat) (s : TS SiD),i < k -> L[i]? = some s -> s.now.has ≠ wn) /\ Way L k D v /\ ms = wayL L v D
def PlanIs (f : zae) (b : Int) (ms : List (Int × Int)) (err : Int) : Prop :=
 if ordB f = true then (if b < 1 then ms = [] /\ err = 11 else if sndB (zad f) = true then (if b < (zav (zad f)).length then ms = [] /\ err = 12 else ((∀ t ∈ zav (zad f),t.now.has ≠ (zad f).wnt) /\ ms = [] /\ err = 13) \/ (FirstAt (zav (zad f)) (zad f).wnt ms /\ err = 0)) else ms = [] /\ err = 10) else ms = [] /\ err = 8
def zij (f : zae) (b : Int) (B : Nat) (e : Ending) (W : World) : Prop :=
 ∃ (u : Value) (ms : List (Int × Int)) (err : Int),e = .returned (.tuple #[u,.int .i64 err]) /\ W.ownsRow B 46 2 u ms.length (mvC ms) /\ PlanIs f b ms err
theorem zdn {f : zae} {b : Int} {B : Nat} {W : World} {err : Int} (h : PlanIs f b [] err) : zij f b B (.returned (.tuple #[.slice none 0 0,.int .i64 err])) W:=⟨_,[],err,rfl,World.ownsRow_nil W B _ _,h⟩
theorem zr2 (L : List (TS SiD)) (v : Nat -> Nat) (D : Nat) : (wayL L v D).length = D:=by simp [wayL]
theorem zsc (c : ChD) (hc : c.ok) (w : World) :
  Calls Tryz.prog 34 #[.agg c.cells.toArray] w fun e W => ∃ g cap,e = .returned (.agg (zan g (zav c).length cap c.wnt).toArray) /\ W.rangeAt g 0 (stsC (zav c)) /\ Below w.heap.size w W:=by
 refine (zsd c hc w).mono ?_
 rintro e W ⟨g,cap,K,rfl,hK,hr,hb⟩
 have:=zek hc hK
 rw [this] at hK hr
 exact ⟨g,cap,by rw [hK],hr,hb⟩
theorem zrk {c : ChD} (hc : c.ok) {K : Nat} (h : (touS c K).length = K) : TInv (nxS c) (zav c) (9 * (zav c).length):=by
 rw [<- zek hc h,h]
 exact (zi6 (nxS c) (begD c) K (by show K <= (touS c K).length;omega)).1
theorem zg5 {c : ChD} (hc : c.ok) : ∃ K,(touS c K).length = K:=by
 have : ∀ n,(∃ K,(touS c K).length = K) \/ n <= (touS c n).length:=by
  intro n
  induction n with
  | zero => exact .inr (Nat.zero_le _)
  | succ n ih =>
   rcases ih with h | h
   ·exact .inl h
   ·rcases Nat.lt_or_ge n (touS c n).length with hlt | hge
    ·right
     obtain ⟨a,ha⟩ : ∃ a,(touS c n)[n]? = some a:=⟨_,List.getElem?_eq_getElem hlt⟩
     exact (List.getElem?_eq_some_iff.1 (zls ha)).1
    ·exact .inl ⟨n,by omega⟩
 rcases this 262145 with h | h
 ·exact h
 ·have:=zej hc h;omega
theorem zsi (f : zae) (sa ta va : Option Addr) (sl sc tl tc vl vc : Nat) (b : Int) (w : World) (hf : FleetAt w sa sl sc ta tl tc va vl vc f) :
  Calls Tryz.prog 11 #[.agg #[.slice sa sl sc,.slice ta tl tc,.slice va vl vc],.int .i64 b] w fun e W => zij f b w.heap.size e W /\ Below w.heap.size w W:=by
 have f0:=box3 w (.slice sa sl sc) (.slice ta tl tc) (.slice va vl vc) 26
 have hio:=fun (W : World) (h : Below w.heap.size w W) => zse f sa ta va sl sc tl tc vl vc W (hf.keep h)
 have hb0:=bel1 w (.cells #[.slice sa sl sc,.slice ta tl tc,.slice va vl vc] 26)
 cases hob : ordB f with
 | false =>
  rw [hob] at hio
  have hp : PlanIs f b [] 8:=by unfold PlanIs;rw [hob];simp
  have HP:= zab hp
  clear hf hp hob
  go_enter Tryz.func11,Tryz.ntmps11
  go_wp2_with (first
   | (go_at_call 20;refine (hio _ hb0).mono ?_;rintro e w1 ⟨rfl,hb1⟩;have f1:=zak hb1 f0))
  go_ret2
  exact ⟨zdn HP.out,thn3 hb0 hb1⟩
 | true =>
  rw [hob] at hio
  have ho:=zo5 hob
  have hch:=fun (W : World) (h : Below w.heap.size w W) => zsb f ho sa ta va sl sc tl tc vl vc W (hf.keep h)
  have hok:=zb5 f
  by_cases hbb : b < 1
  ·have hp : PlanIs f b [] 11:=by unfold PlanIs;rw [if_pos hob,if_pos hbb];exact ⟨rfl,rfl⟩
   have HP:= zab hp
   clear hf hp hob hch ho
   go_enter Tryz.func11,Tryz.ntmps11
   go_wp2_with (first
    | (go_at_call 20;refine (hio _ hb0).mono ?_;rintro e w1 ⟨rfl,hb1⟩;have f1:=zak hb1 f0))
   go_ret2
   exact ⟨zdn HP.out,thn3 hb0 hb1⟩
  have hsn:=fun (W : World) => zsn (zad f) hok W
  have hex:=fun (W : World) => zsc (zad f) hok W
  have hi6 : (Tryz.prog.info? 52).map (·.size) = some (zad f).cells.length:=by rw [hok.len];exact Tryz.infoCht
  have h16 : (zad f).cells.toArray.all (·.oneCell') = true:=zd9 _
  have hCl:=hok.len
  obtain ⟨K,hK⟩:=zg5 hok
  have hsh:=fun (g cap : Nat) (W : World) (h : W.rangeAt g 0 (stsC (zav (zad f)))) => zsm (nxS (zad f)) (zav (zad f)) (zrl hok) (by rw [<- zek hok hK];exact zej hok (by omega)) _ (zrk hok hK) (zad f).wnt hok.wnt g cap W h
  have htz : ∀ g cap,(zan g (zav (zad f)).length cap (zad f).wnt).toArray.size = 10:=fun g cap => by simp [zan,hok.wnt]
  have hit2 : ∀ g cap,(Tryz.prog.info? 71).map (·.size) = some (zan g (zav (zad f)).length cap (zad f).wnt).toArray.size:=fun g cap => by rw [htz];exact Tryz.infoTour
  have hit : ∀ g cap,(Tryz.prog.info? 71).map (·.size) = some (zan g (zav (zad f)).length cap (zad f).wnt).length:=fun g cap => by have:=hit2 g cap;rwa [List.size_toArray] at this
  have hLl : (zav (zad f)).length <= 262144:=by rw [<- zek hok hK];exact zej hok (by omega)
  have hPI : ∀ (ms : List (Int × Int)) (err : Int),(if sndB (zad f) = true then (if b < (zav (zad f)).length then ms = [] /\ err = 12 else ((∀ t ∈ zav (zad f),t.now.has ≠ (zad f).wnt) /\ ms = [] /\ err = 13) \/ (FirstAt (zav (zad f)) (zad f).wnt ms /\ err = 0)) else ms = [] /\ err = 10) -> PlanIs f b ms err:=fun ms err h => by unfold PlanIs;rw [if_pos hob,if_neg hbb];exact h
  have hso:=zrl hok
  clear hK hok ho hob
  generalize hLdef : zav (zad f) = L at hex hsh htz hit2 hit hLl hPI hso
  clear hLdef
  generalize (zad f) = C at hch hsn hex hi6 h16 hCl hsh htz hit2 hit hPI
  have hi7 : (Tryz.prog.info? 52).map (·.size) = some C.cells.toArray.size:=by rw [List.size_toArray];exact hi6
  have hz : ∀ W : World,(W.alloc (.cells Tryz.zeroCells52 52)).there W.heap.size 0 C.cells.toArray.size:=fun W => by
   rw [show C.cells.toArray.size = 189 by simpa using hCl,Tryz.zeroCht]
   have:=zdb (zay W (.cells ((List.replicate 189 false).map Value.bool).toArray 52))
   simpa using this
  have hrs : ∀ W : World,(fun V : World => V.rangeAt W.heap.size 0 C.cells /\ Below W.heap.size W V) ((W.alloc (.cells Tryz.zeroCells52 52)).setCells W.heap.size 0 C.cells):=fun W => ⟨World.rangeAt_setCells_same _ W.heap.size 0 C.cells (by simpa using hz W),below_setCells W.heap.size (Nat.le_refl _) _ _ (belS _ _)⟩
  have htr : ∀ (g cap : Nat) (W : World),W.rangeAt g 0 (stsC L) -> ∀ cs : Array Value,cs.size = 10 -> (fun V : World => V.rangeAt W.heap.size 0 (zan g L.length cap C.wnt) /\ V.rangeAt g 0 (stsC L) /\ Below W.heap.size W V) ((W.alloc (.cells cs 71)).setCells W.heap.size 0 (zan g L.length cap C.wnt)):=fun g cap W hr cs hcs => by
   have hb:=below_setCells W.heap.size (Nat.le_refl _) (zan g L.length cap C.wnt) 0 (belS W (.cells cs 71))
   exact ⟨World.rangeAt_setCells_same _ _ _ _ (by simpa using zda (xs:=(zan g L.length cap C.wnt).toArray) (t:=71) (htz g cap) hcs),zag hb hr,hb⟩
  have HZ:= zab hz
  have HRS:= zab hrs
  have HTR:= zab htr
  have HPI:= zab hPI
  clear hf hCl hz hrs htr hPI
  generalize sndB C = y at hsn HPI
  cases y with
  | false =>
   have HP : Hid (PlanIs f b [] 10):=HPI.out _ _ (by simp)
   clear HPI hex hsh
   go_enter Tryz.func11,Tryz.ntmps11
   go_wp2_with (first
    | (go_at_call 23;refine (hsn _).mono ?_;rintro e w4 ⟨rfl,hb4⟩;have rs4:=zag hb4 rs3;have B4 : Below w.heap.size w w4:=thn3 (thn3 (thn3 (thn3 hb0 hb1) hb2) hb3) hb4)
    | (have hq:=rs3;refine wpList_load_mid (w:=w3) rfl 52 _ rfl w2.heap.size 0 rfl C.cells _ rs3 Tryz.underlying52 rfl hi6 ?_;simp only [Act.put,List.setIfInBounds_toArray,List.set_cons_zero,List.set_cons_succ,List.getElem_toArray,List.getElem_cons_zero,List.getElem_cons_succ])
    | (have hq:=hz2;refine zcq rfl 52 _ _ rfl w2.heap.size 0 C.cells.toArray rfl rfl hz2 hi7 h16 (fun W => W.rangeAt w2.heap.size 0 C.cells /\ Below w2.heap.size w2 W) (HRS.out w2) ?_;rintro w3 ⟨rs3,hb3⟩;simp only [Act.put,List.setIfInBounds_toArray,List.set_cons_zero,List.set_cons_succ,List.getElem_toArray,List.getElem_cons_zero,List.getElem_cons_succ])
    | (go_at_call 21;refine (hch _ (thn3 hb0 hb1)).mono ?_;rintro e w2 ⟨rfl,hb2⟩;have hz2:=HZ.out w2)
    | (go_at_call 20;refine (hio _ hb0).mono ?_;rintro e w1 ⟨rfl,hb1⟩;have f1:=zak hb1 f0))
   go_ret2
   exact ⟨zdn HP.out,B4⟩
  | true =>
   by_cases hlen : b < L.length
   ·have HP : Hid (PlanIs f b [] 12):=HPI.out _ _ (by simp [hlen])
    clear HPI hsh
    go_enter Tryz.func11,Tryz.ntmps11
    go_wp2_with (first
     | (go_at_call 35;refine (zje _ _ _ _ _).mono ?_;rintro e w7 ⟨rfl,hb7⟩;have rt7:=zag hb7 rt6;have rg7:=zag hb7 rg6;have B7:=thn3 B6 hb7)
     | (have hq:=rt6;refine wpList_load_mid (w:=w6) rfl 71 _ rfl w5.heap.size 0 rfl (zan g L.length cap C.wnt) _ rt6 Tryz.underlying71 rfl (hit g cap) ?_;simp only [Act.put,List.setIfInBounds_toArray,List.set_cons_zero,List.set_cons_succ,List.getElem_toArray,List.getElem_cons_zero,List.getElem_cons_succ])
     | (have hq:=rg5;refine zcq rfl 71 _ _ rfl w5.heap.size 0 (zan g L.length cap C.wnt).toArray rfl rfl (zda (htz g cap) (by rfl)) (hit2 g cap) (zlu _ _ _ _) (fun W => W.rangeAt w5.heap.size 0 (zan g L.length cap C.wnt) /\ W.rangeAt g 0 (stsC L) /\ Below w5.heap.size w5 W) (HTR.out g cap w5 rg5 _ (by rfl)) ?_;rintro w6 ⟨rt6,rg6,hb6⟩;have B6:=thn3 B5 hb6;simp only [Act.put,List.setIfInBounds_toArray,List.set_cons_zero,List.set_cons_succ,List.getElem_toArray,List.getElem_cons_zero,List.getElem_cons_succ])
     | (go_at_call 34;refine (hex _).mono ?_;rintro e w5 ⟨g,cap,rfl,rg5,hb5⟩;have B5:=thn3 B4 hb5)
     | (have hq:=rs4;refine wpList_load_mid (w:=w4) rfl 52 _ rfl w2.heap.size 0 rfl C.cells _ rs4 Tryz.underlying52 rfl hi6 ?_;simp only [Act.put,List.setIfInBounds_toArray,List.set_cons_zero,List.set_cons_succ,List.getElem_toArray,List.getElem_cons_zero,List.getElem_cons_succ])
     | (go_at_call 23;refine (hsn _).mono ?_;rintro e w4 ⟨rfl,hb4⟩;have rs4:=zag hb4 rs3;have B4 : Below w.heap.size w w4:=thn3 (thn3 (thn3 (thn3 hb0 hb1) hb2) hb3) hb4)
     | (have hq:=rs3;refine wpList_load_mid (w:=w3) rfl 52 _ rfl w2.heap.size 0 rfl C.cells _ rs3 Tryz.underlying52 rfl hi6 ?_;simp only [Act.put,List.setIfInBounds_toArray,List.set_cons_zero,List.set_cons_succ,List.getElem_toArray,List.getElem_cons_zero,List.getElem_cons_succ])
     | (have hq:=hz2;refine zcq rfl 52 _ _ rfl w2.heap.size 0 C.cells.toArray rfl rfl hz2 hi7 h16 (fun W => W.rangeAt w2.heap.size 0 C.cells /\ Below w2.heap.size w2 W) (HRS.out w2) ?_;rintro w3 ⟨rs3,hb3⟩;simp only [Act.put,List.setIfInBounds_toArray,List.set_cons_zero,List.set_cons_succ,List.getElem_toArray,List.getElem_cons_zero,List.getElem_cons_succ])
     | (go_at_call 21;refine (hch _ (thn3 hb0 hb1)).mono ?_;rintro e w2 ⟨rfl,hb2⟩;have hz2:=HZ.out w2)
     | (go_at_call 20;refine (hio _ hb0).mono ?_;rintro e w1 ⟨rfl,hb1⟩;have f1:=zak hb1 f0))
    go_ret2
    exact ⟨zdn HP.out,B7⟩
   ·have hlen' : (L.length : Int) <= b:=by omega
    have HP : Hid (∀ ms err,(((∀ t ∈ L,t.now.has ≠ C.wnt) /\ ms = [] /\ err = 13) \/ (FirstAt L C.wnt ms /\ err = 0)) -> PlanIs f b ms err):=fun ms err h => HPI.out _ _ (by rw [if_pos rfl,if_neg hlen];exact h)
    clear HPI hlen
    by_cases hno : ∀ t ∈ L,t.now.has ≠ C.wnt
    ·have hsh2 : ∀ (g cap : Nat) (W : World),W.rangeAt g 0 (stsC L) -> Calls Tryz.prog 36 #[.agg (zan g L.length cap C.wnt).toArray] W fun e V => e = .returned (.tuple #[.slice none 0 0,.bool false]) /\ Below W.heap.size W V:=fun g cap W h => by
      refine (hsh g cap W h).mono ?_
      rintro e V ⟨h1 | ⟨k,D,v,t,u,h1,h2,_⟩,hb⟩
      ·exact ⟨h1.2,hb⟩
      ·exact absurd h2 (hno t (List.mem_of_getElem? h1))
     have HP2:=(zab (HP.out [] 13 (.inl ⟨hno,rfl,rfl⟩)))
     clear HP hsh hno
     go_enter Tryz.func11,Tryz.ntmps11
     go_wp2_with (first
      | (go_at_call 36;refine (hsh2 g cap _ rg7).mono ?_;rintro e w8 ⟨rfl,hb8⟩)
      | (have hq:=rt7;refine wpList_load_mid (w:=w7) rfl 71 _ rfl w5.heap.size 0 rfl (zan g L.length cap C.wnt) _ rt7 Tryz.underlying71 rfl (hit g cap) ?_;simp only [Act.put,List.setIfInBounds_toArray,List.set_cons_zero,List.set_cons_succ,List.getElem_toArray,List.getElem_cons_zero,List.getElem_cons_succ])
      | (go_at_call 35;refine (zje _ _ _ _ _).mono ?_;rintro e w7 ⟨rfl,hb7⟩;have rt7:=zag hb7 rt6;have rg7:=zag hb7 rg6;have B7:=thn3 B6 hb7)
      | (have hq:=rt6;refine wpList_load_mid (w:=w6) rfl 71 _ rfl w5.heap.size 0 rfl (zan g L.length cap C.wnt) _ rt6 Tryz.underlying71 rfl (hit g cap) ?_;simp only [Act.put,List.setIfInBounds_toArray,List.set_cons_zero,List.set_cons_succ,List.getElem_toArray,List.getElem_cons_zero,List.getElem_cons_succ])
      | (have hq:=rg5;refine zcq rfl 71 _ _ rfl w5.heap.size 0 (zan g L.length cap C.wnt).toArray rfl rfl (zda (htz g cap) (by rfl)) (hit2 g cap) (zlu _ _ _ _) (fun W => W.rangeAt w5.heap.size 0 (zan g L.length cap C.wnt) /\ W.rangeAt g 0 (stsC L) /\ Below w5.heap.size w5 W) (HTR.out g cap w5 rg5 _ (by rfl)) ?_;rintro w6 ⟨rt6,rg6,hb6⟩;have B6:=thn3 B5 hb6;simp only [Act.put,List.setIfInBounds_toArray,List.set_cons_zero,List.set_cons_succ,List.getElem_toArray,List.getElem_cons_zero,List.getElem_cons_succ])
      | (go_at_call 34;refine (hex _).mono ?_;rintro e w5 ⟨g,cap,rfl,rg5,hb5⟩;have B5:=thn3 B4 hb5)
      | (have hq:=rs4;refine wpList_load_mid (w:=w4) rfl 52 _ rfl w2.heap.size 0 rfl C.cells _ rs4 Tryz.underlying52 rfl hi6 ?_;simp only [Act.put,List.setIfInBounds_toArray,List.set_cons_zero,List.set_cons_succ,List.getElem_toArray,List.getElem_cons_zero,List.getElem_cons_succ])
      | (go_at_call 23;refine (hsn _).mono ?_;rintro e w4 ⟨rfl,hb4⟩;have rs4:=zag hb4 rs3;have B4 : Below w.heap.size w w4:=thn3 (thn3 (thn3 (thn3 hb0 hb1) hb2) hb3) hb4)
      | (have hq:=rs3;refine wpList_load_mid (w:=w3) rfl 52 _ rfl w2.heap.size 0 rfl C.cells _ rs3 Tryz.underlying52 rfl hi6 ?_;simp only [Act.put,List.setIfInBounds_toArray,List.set_cons_zero,List.set_cons_succ,List.getElem_toArray,List.getElem_cons_zero,List.getElem_cons_succ])
      | (have hq:=hz2;refine zcq rfl 52 _ _ rfl w2.heap.size 0 C.cells.toArray rfl rfl hz2 hi7 h16 (fun W => W.rangeAt w2.heap.size 0 C.cells /\ Below w2.heap.size w2 W) (HRS.out w2) ?_;rintro w3 ⟨rs3,hb3⟩;simp only [Act.put,List.setIfInBounds_toArray,List.set_cons_zero,List.set_cons_succ,List.getElem_toArray,List.getElem_cons_zero,List.getElem_cons_succ])
      | (go_at_call 21;refine (hch _ (thn3 hb0 hb1)).mono ?_;rintro e w2 ⟨rfl,hb2⟩;have hz2:=HZ.out w2)
      | (go_at_call 20;refine (hio _ hb0).mono ?_;rintro e w1 ⟨rfl,hb1⟩;have f1:=zak hb1 f0))
     go_ret2
     exact ⟨zdn HP2.out,thn3 B7 hb8⟩
    ·have hsh2 : ∀ (g cap : Nat) (W : World),W.rangeAt g 0 (stsC L) -> Calls Tryz.prog 36 #[.agg (zan g L.length cap C.wnt).toArray] W fun e V => ∃ (u : Value) (ms : List (Int × Int)),e = .returned (.tuple #[u,.bool true]) /\ V.ownsRow W.heap.size 46 2 u ms.length (mvC ms) /\ PlanIs f b ms 0 /\ Below W.heap.size W V:=fun g cap W h => by
      refine (hsh g cap W h).mono ?_
      rintro e V ⟨h1 | ⟨k,D,v,t,u,h1,h2,h3,h4,h5,h6⟩,hb⟩
      ·exact absurd h1.1 hno
      ·exact ⟨u,wayL L v D,h5,by rw [zr2];exact h6,HP.out _ _ (.inr ⟨⟨k,D,v,t,h1,h2,h3,h4,rfl⟩,rfl⟩),hb⟩
     clear HP hsh hno
     go_enter Tryz.func11,Tryz.ntmps11
     go_wp2_with (first
      | (go_at_call 36;refine (hsh2 g cap _ rg7).mono ?_;rintro e w8 ⟨u,ms,rfl,hown8,hp8,hb8⟩;have hp8:= zab hp8;have hown8:=(zab hown8))
      | (have hq:=rt7;refine wpList_load_mid (w:=w7) rfl 71 _ rfl w5.heap.size 0 rfl (zan g L.length cap C.wnt) _ rt7 Tryz.underlying71 rfl (hit g cap) ?_;simp only [Act.put,List.setIfInBounds_toArray,List.set_cons_zero,List.set_cons_succ,List.getElem_toArray,List.getElem_cons_zero,List.getElem_cons_succ])
      | (go_at_call 35;refine (zje _ _ _ _ _).mono ?_;rintro e w7 ⟨rfl,hb7⟩;have rt7:=zag hb7 rt6;have rg7:=zag hb7 rg6;have B7:=thn3 B6 hb7)
      | (have hq:=rt6;refine wpList_load_mid (w:=w6) rfl 71 _ rfl w5.heap.size 0 rfl (zan g L.length cap C.wnt) _ rt6 Tryz.underlying71 rfl (hit g cap) ?_;simp only [Act.put,List.setIfInBounds_toArray,List.set_cons_zero,List.set_cons_succ,List.getElem_toArray,List.getElem_cons_zero,List.getElem_cons_succ])
      | (have hq:=rg5;refine zcq rfl 71 _ _ rfl w5.heap.size 0 (zan g L.length cap C.wnt).toArray rfl rfl (zda (htz g cap) (by rfl)) (hit2 g cap) (zlu _ _ _ _) (fun W => W.rangeAt w5.heap.size 0 (zan g L.length cap C.wnt) /\ W.rangeAt g 0 (stsC L) /\ Below w5.heap.size w5 W) (HTR.out g cap w5 rg5 _ (by rfl)) ?_;rintro w6 ⟨rt6,rg6,hb6⟩;have B6:=thn3 B5 hb6;simp only [Act.put,List.setIfInBounds_toArray,List.set_cons_zero,List.set_cons_succ,List.getElem_toArray,List.getElem_cons_zero,List.getElem_cons_succ])
      | (go_at_call 34;refine (hex _).mono ?_;rintro e w5 ⟨g,cap,rfl,rg5,hb5⟩;have B5:=thn3 B4 hb5)
      | (have hq:=rs4;refine wpList_load_mid (w:=w4) rfl 52 _ rfl w2.heap.size 0 rfl C.cells _ rs4 Tryz.underlying52 rfl hi6 ?_;simp only [Act.put,List.setIfInBounds_toArray,List.set_cons_zero,List.set_cons_succ,List.getElem_toArray,List.getElem_cons_zero,List.getElem_cons_succ])
      | (go_at_call 23;refine (hsn _).mono ?_;rintro e w4 ⟨rfl,hb4⟩;have rs4:=zag hb4 rs3;have B4 : Below w.heap.size w w4:=thn3 (thn3 (thn3 (thn3 hb0 hb1) hb2) hb3) hb4)
      | (have hq:=rs3;refine wpList_load_mid (w:=w3) rfl 52 _ rfl w2.heap.size 0 rfl C.cells _ rs3 Tryz.underlying52 rfl hi6 ?_;simp only [Act.put,List.setIfInBounds_toArray,List.set_cons_zero,List.set_cons_succ,List.getElem_toArray,List.getElem_cons_zero,List.getElem_cons_succ])
      | (have hq:=hz2;refine zcq rfl 52 _ _ rfl w2.heap.size 0 C.cells.toArray rfl rfl hz2 hi7 h16 (fun W => W.rangeAt w2.heap.size 0 C.cells /\ Below w2.heap.size w2 W) (HRS.out w2) ?_;rintro w3 ⟨rs3,hb3⟩;simp only [Act.put,List.setIfInBounds_toArray,List.set_cons_zero,List.set_cons_succ,List.getElem_toArray,List.getElem_cons_zero,List.getElem_cons_succ])
      | (go_at_call 21;refine (hch _ (thn3 hb0 hb1)).mono ?_;rintro e w2 ⟨rfl,hb2⟩;have hz2:=HZ.out w2)
      | (go_at_call 20;refine (hio _ hb0).mono ?_;rintro e w1 ⟨rfl,hb1⟩;have f1:=zak hb1 f0))
     go_ret2
     exact ⟨⟨u,ms,0,rfl,hown8.out.mono B7.size,hp8.out⟩,thn3 B7 hb8⟩
end
section
open Go.RowKit
theorem Way.key {α : Type} {L : List (TS α)} {g D D' : Nat} {v v' : Nat -> Nat} (h : Way L g D v) (h' : Way L g D' v') : ∀ d,d <= D -> d <= D' /\ v (D - d) = v' (D' - d)
 | 0,_ => ⟨Nat.zero_le _,by rw [Nat.sub_zero,Nat.sub_zero,h.last,h'.last]⟩
 | d + 1,hd => by
  obtain ⟨h1,h2⟩:=Way.key h h' d (by omega)
  obtain ⟨p1,p2,a,ha,hf⟩:=h.step (D - (d + 1)) (by omega)
  rw [show D - (d + 1) + 1 = D - d by omega] at p1 p2 ha
  have hne : D' - d ≠ 0:=fun e => by rw [e,h'.zero] at h2;omega
  obtain ⟨q1,q2,b,hb,hg⟩:=h'.step (D' - (d + 1)) (by omega)
  rw [show D' - (d + 1) + 1 = D' - d by omega,<- h2,ha] at hb
  cases hb
  exact ⟨by omega,by rw [<- hf,<- hg]⟩
theorem Way.uniq {α : Type} {L : List (TS α)} {g D D' : Nat} {v v' : Nat -> Nat} (h : Way L g D v) (h' : Way L g D' v') : D = D' /\ ∀ t,t <= D -> v t = v' t:=by
 have h1:=(Way.key h h' D (Nat.le_refl _)).1
 have h2:=(Way.key h' h D' (Nat.le_refl _)).1
 obtain rfl : D = D':=by omega
 refine ⟨rfl,fun t ht => ?_⟩
 have:=(Way.key h h' (D - t) (by omega)).2
 rwa [show D - (D - t) = t by omega] at this
theorem yaa8 {L : List (TS SiD)} {v v' : Nat -> Nat} {D : Nat} (h : ∀ t,t <= D -> v t = v' t) : wayL L v D = wayL L v' D:=by
 unfold wayL
 refine List.map_congr_left fun t ht => ?_
 have:=List.mem_range.1 ht
 unfold wayM
 rw [h (t + 1) (by omega)]
theorem FirstAt.uniq {L : List (TS SiD)} {wn : List Bool} {ms ms' : List (Int × Int)} (h : FirstAt L wn ms) (h' : FirstAt L wn ms') : ms = ms':=by
 obtain ⟨k,D,v,t,hk,ht,hf,hw,rfl⟩:=h
 obtain ⟨k',D',v',t',hk',ht',hf',hw',rfl⟩:=h'
 have e1 : ¬ k < k':=fun hc => hf' k t hc hk ht
 have e2 : ¬ k' < k:=fun hc => hf k' t' hc hk' ht'
 obtain rfl : k = k':=by omega
 obtain ⟨rfl,he⟩:=hw.uniq hw'
 exact yaa8 he
theorem FirstAt.some {L : List (TS SiD)} {wn : List Bool} {ms : List (Int × Int)} (h : FirstAt L wn ms) (hn : ∀ t ∈ L,t.now.has ≠ wn) : False:=by
 obtain ⟨k,D,v,t,hk,ht,_⟩:=h
 exact hn t (List.mem_of_getElem? hk) ht
theorem PlanIs.uniq {f : zae} {b : Int} {ms ms' : List (Int × Int)} {e e' : Int} (h : PlanIs f b ms e) (h' : PlanIs f b ms' e') : ms = ms' /\ e = e':=by
 unfold PlanIs at h h'
 by_cases h1 : ordB f = true
 ·rw [if_pos h1] at h h'
  by_cases h2 : b < 1
  ·rw [if_pos h2] at h h';exact ⟨h.1.trans h'.1.symm,h.2.trans h'.2.symm⟩
  ·rw [if_neg h2] at h h'
   by_cases h3 : sndB (zad f) = true
   ·rw [if_pos h3] at h h'
    by_cases h4 : b < (zav (zad f)).length
    ·rw [if_pos h4] at h h';exact ⟨h.1.trans h'.1.symm,h.2.trans h'.2.symm⟩
    ·rw [if_neg h4] at h h'
     rcases h with ⟨hn,h5,h6⟩ | ⟨h5,h6⟩
     ·rcases h' with ⟨_,h7,h8⟩ | ⟨h7,_⟩
      ·exact ⟨h5.trans h7.symm,h6.trans h8.symm⟩
      ·exact (h7.some hn).elim
     ·rcases h' with ⟨hn,_,_⟩ | ⟨h7,h8⟩
      ·exact (h5.some hn).elim
      ·exact ⟨h5.uniq h7,h6.trans h8.symm⟩
   ·rw [if_neg h3] at h h';exact ⟨h.1.trans h'.1.symm,h.2.trans h'.2.symm⟩
 ·rw [if_neg h1] at h h';exact ⟨h.1.trans h'.1.symm,h.2.trans h'.2.symm⟩
end
section
open Go.RowKit
theorem zvl (f : zae) (sa ta va : Option Addr) (sl sc tl tc vl vc : Nat) (w : World) (hf : FleetAt w sa sl sc ta tl tc va vl vc f) :
  Calls Tryz.prog 5 #[.agg #[.slice sa sl sc,.slice ta tl tc,.slice va vl vc]] w fun e W => ∃ gs gt gv D,e = .returned (zgq gs gt gv f) /\ LentF W gs gt gv D f /\ (w.heap.size <= gs /\ w.heap.size <= gt /\ w.heap.size <= gv) /\ Below w.heap.size w W:=by
 have c1:=fun (W : World) (h : Below w.heap.size w W) => zvj f.ss W sa sc hf.s2 (hf.s4.keep h)
 have c2:=fun (W : World) (h : Below w.heap.size w W) => zvk f.ts W ta tc hf.t2 (hf.t3.keep h)
 have c3:=fun (W : World) (h : Below w.heap.size w W) => zvi f.vs W va vc hf.v2 (hf.v3.keep (fun _ _ _ _ h' => RelSl.keepP h h') h)
 rw [<- hf.s1] at c1
 rw [<- hf.t1] at c2
 rw [<- hf.v1] at c3
 have e0:=new3 (.cells #[.slice none 0 0,.slice none 0 0,.slice none 0 0] 26) (box3 w (.slice sa sl sc) (.slice ta tl tc) (.slice va vl vc) 26)
 have z0:=box3 (w.alloc (.cells #[.slice sa sl sc,.slice ta tl tc,.slice va vl vc] 26)) (.slice none 0 0) (.slice none 0 0) (.slice none 0 0) 26
 have hBB:=thn3 (bel1 w (.cells #[.slice sa sl sc,.slice ta tl tc,.slice va vl vc] 26)) (bel1 _ (.cells #[.slice none 0 0,.slice none 0 0,.slice none 0 0] 26))
 rw [show (w.alloc (.cells #[.slice sa sl sc,.slice ta tl tc,.slice va vl vc] 26)).heap.size = w.heap.size + 1 by simp] at z0
 have H1:= zab hf.s1
 have H2:= zab hf.t1
 have H3:= zab hf.v1
 clear hf
 go_enter Tryz.func5,Tryz.ntmps5
 go_wp2_with (first
  | (go_at_call 17;refine (c1 _ hBB).mono ?_;rintro e w1 ⟨gs,rfl,hgs,hrs,hb1⟩;have e1:=zak hb1 e0;have z1:=zak hb1 z0)
  | (go_at_call 18;refine (c2 _ (thn3 hBB hb1)).mono ?_;rintro e w2 ⟨gt,rfl,hgt,hrt,hb2⟩;have e2:=zak hb2 e1;have z2:=zak hb2 z1)
  | (go_at_call 19;refine (c3 _ (thn3 (thn3 hBB hb1) hb2)).mono ?_;rintro e w3 ⟨gv,D,rfl,hgv,hD,hrv,hrr,hb3⟩;have z3:=zak hb3 z2;have hB3:=thn3 (thn3 hb1 hb2) hb3;obtain ⟨hcc,hff⟩:=zal hB3))
 refine bodyPost_ret (v:=.agg #[.slice (some ⟨gs,0,none⟩) sl (sl + 1),.slice (some ⟨gt,0,none⟩) tl (tl + 1),.slice (some ⟨gv,0,none⟩) vl (vl + 1)]) (by simp [results,Tryz.results5,go_sem,z3.1,z3.2.1,z3.2.2]) rfl ?_
 have hz0 : ((w.alloc (.cells #[.slice sa sl sc,.slice ta tl tc,.slice va vl vc] 26)).alloc (.cells #[.slice none 0 0,.slice none 0 0,.slice none 0 0] 26)).heap.size = w.heap.size + 2:=by simp
 have hs1:=hb1.size
 have hs2:=hb2.size
 rw [hz0] at hgs hs1
 have hBW:=thn3 hBB hB3
 refine ⟨gs,gt,gv,D,?_,⟨?_,?_,hD,?_,?_⟩,⟨by omega,by omega,by omega⟩,((hBW.setCell (Nat.le_succ _) _).setCell (Nat.le_succ _) _).setCell (Nat.le_succ _) _⟩
 ·unfold zgq;rw [H1.out,H2.out,H3.out]
 ·exact (((((hrs.keep hb2).keep hb3).setOther (by show w.heap.size + 1 ≠ gs;omega) _).setOther (by show w.heap.size + 1 ≠ gs;omega) _).setOther (by show w.heap.size + 1 ≠ gs;omega) _)
 ·exact ((((hrt.keep hb3).setOther (by show w.heap.size + 1 ≠ gt;omega) _).setOther (by show w.heap.size + 1 ≠ gt;omega) _).setOther (by show w.heap.size + 1 ≠ gt;omega) _)
 ·exact (((hrv.setOther (by show w.heap.size + 1 ≠ gv;omega) _).setOther (by show w.heap.size + 1 ≠ gv;omega) _).setOther (by show w.heap.size + 1 ≠ gv;omega) _)
 ·intro p hp
  exact ((((hrr p hp).setOther (by show w.heap.size + 1 < gv + 1;omega) _).setOther (by show w.heap.size + 1 < gv + 1;omega) _).setOther (by show w.heap.size + 1 < gv + 1;omega) _)
theorem zuq {w : World} {sa ta va : Option Addr} {sl sc tl tc vl vc : Nat} {f : zae} (h : FleetAt w sa sl sc ta tl tc va vl vc f) : ziv f:=by
 refine ⟨h.s2,h.s3,h.t2,h.v2,fun v hv => ?_⟩
 obtain ⟨i,hi⟩:=List.getElem?_of_mem hv
 obtain ⟨_,_,_,_,_,_,_,_,_,_,hr⟩:=h.v3 i v hi
 refine ⟨hr.2.1,fun ps hps => ?_⟩
 obtain ⟨j,hj⟩:=List.getElem?_of_mem hps
 obtain ⟨_,_,_,_,_,_,_,hp⟩:=hr.2.2.2.2 j ps hj
 exact hp.2.1
theorem LentF.svcW {w : World} {gs gt gv lo : Nat} {D : List (SvcD × Value)} {f : zae} (h : LentF w gs gt gv D f) (hs : ziv f) (h3 : lo <= gv) : SvcW lo w.heap.size w gv f.vs.length:=by
 refine ⟨h3,h.v.lt,_,h.v,fun i hi => ?_⟩
 have hDl : D.length = f.vs.length:=by rw [<- h.d,List.length_map]
 obtain ⟨p,hp⟩ : ∃ p,D[i]? = some p:=⟨D[i]'(by omega),List.getElem?_eq_getElem _⟩
 obtain ⟨k0,k1,k2,k3⟩:=zi0 D i p [.int .i64 (-7),.int .i64 (-7),.int .i64 (-7),.slice none 0 0] hp
 obtain ⟨g,g',cs,e1,e2,e3,e4,e5,e6,e7⟩:=h.r p (List.mem_of_getElem? hp)
 rw [e1] at k3
 have hm : p.1 ∈ f.vs:=by rw [<- h.d];exact List.mem_map_of_mem (List.mem_of_getElem? hp)
 refine ⟨_,_,_,g,_,_,k0,k1,k2,k3,by omega,e5.lt,(hs.2.2.2.2 _ hm).1,_,e5,fun j hj => ?_⟩
 obtain ⟨u,hu⟩ : ∃ u,cs[j]? = some u:=⟨cs[j]'(by omega),List.getElem?_eq_getElem _⟩
 obtain ⟨ps,hps⟩ : ∃ ps,p.1.rels[j]? = some ps:=⟨p.1.rels[j]'(by omega),List.getElem?_eq_getElem _⟩
 obtain ⟨gp,q1,q2,q3⟩:=e7 j u ps hu hps
 refine ⟨gp,ps.length,ps.length + 1,by rw [List.getElem?_append_left (by omega),hu,q1],by omega,q3.lt,(hs.2.2.2.2 _ hm).2 ps (List.mem_of_getElem? hps),_,q3,by rw [List.length_append,zde];omega,fun v hv => ?_⟩
 rcases List.mem_append.1 hv with hv | hv
 ·unfold pinC at hv
  obtain ⟨q,_,hq⟩:=List.mem_flatMap.1 hv
  simp at hq
  rcases hq with rfl | rfl | rfl <;> exact ⟨_,rfl⟩
 ·unfold zd5 at hv
  simp at hv
  exact ⟨_,hv⟩
theorem LentF.spI {w w' : World} {gs gt gv lo : Nat} {D : List (SvcD × Value)} {f : zae} (h : LentF w gs gt gv D f) (hs : ziv f) (h3 : lo <= gv) (hb : Below w.heap.size w w') (hlo : lo <= w.heap.size) : SpI lo w.heap.size gs gt gv f.ss.length f.ts.length f.vs.length w' w':=by
 refine ⟨KO.refl _ (Nat.le_trans hlo hb.size),⟨_,h.s.keep hb,by simp⟩,⟨_,h.t.keep hb,by simp,fun v hv => ?_⟩,(h.svcW hs h3).below hb⟩
 rcases List.mem_append.1 hv with hv | hv
 ·obtain ⟨x,_,rfl⟩:=List.mem_map.1 hv;exact ⟨x,rfl⟩
 ·simp at hv;exact ⟨_,hv⟩
def Mkd (w : World) (u : Value) : Prop:=u = .slice none 0 0 \/ ∃ g n cap,u = .slice (some ⟨g,0,none⟩) n cap /\ n <= cap /\ cap <= maxLen /\ RowIs w g 46 (mkC cap)
theorem Mkd.keep {w w' : World} {u : Value} (h : Mkd w u) (hb : Below w.heap.size w w') : Mkd w' u:=by
 rcases h with h | ⟨g,n,cap,h1,h2,h3,h4⟩
 ·exact .inl h
 ·exact .inr ⟨g,n,cap,h1,h2,h3,h4.keep hb⟩
theorem Mkd.ko {lo hi : Nat} {w w' : World} {u : Value} (h : Mkd w u) (hk : KO lo hi w w') (hu : ∀ k,u.ownBlock = some k -> hi <= k) : Mkd w' u:=by
 rcases h with h | ⟨g,n,cap,rfl,h2,h3,h4⟩
 ·exact .inl h
 ·exact .inr ⟨g,n,cap,rfl,h2,h3,hk.row h4 (.inr (hu g rfl))⟩
theorem zvs {w : World} {B n : Nat} {u : Value} {xs : List Value} (h : w.ownsRow B 46 2 u n xs) :
  Calls Tryz.prog 14 #[u] w fun e W => e = .returned (.tuple #[]) /\ Mkd W u /\ Below B w W /\ ∀ k,k < w.heap.size -> u.ownBlock ≠ some k -> W.heap[k]? = w.heap[k]?:=by
 obtain ⟨hl,⟨rfl,rfl⟩ | ⟨g,cap,cur,rfl,hb,hh,hc,hm,hs,ht⟩⟩:=h
 ·refine (zvt w).mono ?_
  rintro e W ⟨he,rfl⟩
  exact ⟨he,.inl rfl,Below.refl _ _,fun _ _ _ => rfl⟩
 ·refine (zvr n cap hm hc g cur.toList (by simpa using hs) w (by unfold RowIs;simpa using hh)).mono ?_
  rintro e W ⟨he,h1,h2,h3⟩
  exact ⟨he,.inr ⟨g,n,cap,rfl,hc,hm,h1⟩,h3.mono hb,fun k hk hne => h2.block k hk fun e => hne (by rw [e];rfl)⟩
theorem zvv {w : World} {u : Value} (h : Mkd w u) : Calls Tryz.prog 16 #[u] w fun e W => e = .returned (.bool true) /\ Below w.heap.size w W:=by
 rcases h with rfl | ⟨g,n,cap,rfl,h2,h3,h4⟩
 ·exact zvw w
 ·exact zvu n cap h3 h2 g w h4
theorem MvsAt.mv {w w' : World} {a : Option Addr} {ms : List (Int × Int)} (h : MvsAt w a ms) (hk : ∀ b o,a = some ⟨b,o,none⟩ -> b < w.heap.size -> w'.heap[b]? = w.heap[b]?) : MvsAt w' a ms:=fun i m hi => by
 obtain ⟨b,o,ha,h1,h2⟩:=h i m hi
 have hb:=hk b o ha (zaf h1)
 exact ⟨b,o,ha,by rw [World.cell?_of_block (w:=w) (a:=⟨b,o + i * 2,none⟩) hb];exact h1,by rw [World.cell?_of_block (w:=w) (a:=⟨b,o + i * 2 + 1,none⟩) hb];exact h2⟩
theorem KO.cell {lo hi : Nat} {w w' : World} (h : KO lo hi w w') {b o : Nat} {v : Value} (hb : b < lo \/ hi <= b) (hc : w.cell? ⟨b,o,none⟩ = some v) : w'.cell? ⟨b,o,none⟩ = some v:=by
 have hl:=zaf hc
 rw [World.cell?_of_block (w:=w) (a:=⟨b,o,none⟩) (by rcases hb with hb | hb;exact h.bel.block b hb;exact h.block b hl hb)];exact hc
theorem PlanIs.short {f : zae} {b : Int} {ms : List (Int × Int)} {e : Int} (h : PlanIs f b ms e) : ms.length <= 2000000:=by
 have hF : FirstAt (zav (zad f)) (zad f).wnt ms -> ms.length <= 2000000:=fun h => by
  obtain ⟨k,D,v,t,hk,_,_,hv,rfl⟩:=h
  obtain ⟨K,hK⟩:=zg5 (zb5 f)
  have h1 : (zav (zad f)).length <= 262144:=by rw [<- zek (zb5 f) hK];exact zej (zb5 f) (by omega)
  have h2:=(List.getElem?_eq_some_iff.1 hk).1
  have h3:=hv.ge D (Nat.le_refl _)
  rw [hv.last] at h3
  rw [zr2];omega
 unfold PlanIs at h
 split at h
 ·split at h
  ·rw [h.1];exact Nat.zero_le _
  ·split at h
   ·split at h
    ·rw [h.1];exact Nat.zero_le _
    ·rcases h with ⟨_,h,_⟩ | ⟨h,_⟩
     ·rw [h];exact Nat.zero_le _
     ·exact hF h
   ·rw [h.1];exact Nat.zero_le _
 ·rw [h.1];exact Nat.zero_le _
end
end Go.Proofs.YtkkekopomiehlaaGreat
