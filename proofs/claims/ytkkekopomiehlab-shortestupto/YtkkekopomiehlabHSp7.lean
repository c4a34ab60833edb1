import Derived.Test.YtkkekopomiehlabHSf15
import Derived.Test.YtkkekopomiehlabHSf9
set_option linter.unusedVariables false
set_option linter.unusedSimpArgs false
set_option maxHeartbeats 40000000
namespace Go.Proofs.Ytkkekopomiehlab
section
set_option maxRecDepth 16000
open Go.RowKit
open Go.Lib (below_setCells)
theorem zjq {c : ChD} {K : Nat} (h : (touS c K).length <= K) : ∀ d,touS c (K + d) = touS c K
 | 0 => rfl
 | d + 1 => by
  have ih:=zjq h d
  have : (touS c (K + d))[K + d]? = none:=by rw [ih];exact List.getElem?_eq_none (by omega)
  show tou (nxS c) (begD c) (K + d + 1) = _
  rw [tou]
  unfold touS at this
  rw [this];exact ih
def zap (c : ChD) : List (TS SiD):=touS c 262144
theorem zcd {c : ChD} (hc : c.ok) {K : Nat} (h : (touS c K).length = K) : touS c K = zap c:=by
 have hl:=zdx hc (k:=K) (by omega)
 have:=zjq (c:=c) (K:=K) (by omega) (262144 - K)
 rw [show K + (262144 - K) = 262144 by omega] at this
 exact this.symm
theorem zjr {c : ChD} (hc : c.ok) : zbp (zap c):=zcq hc _
theorem zgd (g n cap : Nat) (wn : List Bool) : (zah g n cap wn).toArray.all (·.oneCell') = true:=all_oneCell_toArray fun v hv => by
 rcases List.mem_cons.1 hv with rfl | hv
 ·rfl
 ·obtain ⟨b,_,rfl⟩:=List.mem_map.1 hv;rfl
def FirstAt (L : List (TS SiD)) (wn : List Bool) (ms : List (Int × Int)) : Prop :=
 ∃ (k D : Nat) (v : Nat -> Nat) (t : TS SiD),L[k]? = some t /\ t.now.has = wn /\ (∀ (i : Nat) (s : TS SiD),i < k -> L[i]? = some s -> s.now.has ≠ wn) /\ Way L k D v /\ ms = wayL L v D
def PlanIs (f : zad) (b : Int) (ms : List (Int × Int)) (err : Int) : Prop :=
 if ordB f = true then (if b < 1 then ms = [] /\ err = 11 else if sndB (zac f) = true then (if b < (zap (zac f)).length then ms = [] /\ err = 12 else ((∀ t ∈ zap (zac f),t.now.has ≠ (zac f).wnt) /\ ms = [] /\ err = 13) \/ (FirstAt (zap (zac f)) (zac f).wnt ms /\ err = 0)) else ms = [] /\ err = 10) else ms = [] /\ err = 8
def ziy (f : zad) (b : Int) (B : Nat) (e : Ending) (W : World) : Prop :=
 ∃ (u : Value) (ms : List (Int × Int)) (err : Int),e = .returned (.tuple #[u,.int .i64 err]) /\ W.ownsRow B 45 2 u ms.length (mvC ms) /\ PlanIs f b ms err
theorem zds {f : zad} {b : Int} {B : Nat} {W : World} {err : Int} (h : PlanIs f b [] err) : ziy f b B (.returned (.tuple #[.slice none 0 0,.int .i64 err])) W:=⟨_,[],err,rfl,World.ownsRow_nil W B _ _,h⟩
theorem zj0 (L : List (TS SiD)) (v : Nat -> Nat) (D : Nat) : (wayL L v D).length = D:=by simp [wayL]
theorem zj8 (c : ChD) (hc : c.ok) (w : World) :
  Calls Try.prog 27 #[.agg c.cells.toArray] w fun e W => ∃ g cap,e = .returned (.agg (zah g (zap c).length cap c.wnt).toArray) /\ W.rangeAt g 0 (stsC (zap c)) /\ Below w.heap.size w W:=by
 refine (zj9 c hc w).mono ?_
 rintro e W ⟨g,cap,K,rfl,hK,hr,hb⟩
 have:=zcd hc hK
 rw [this] at hK hr
 exact ⟨g,cap,by rw [hK],hr,hb⟩
theorem zdy {c : ChD} (hc : c.ok) {K : Nat} (h : (touS c K).length = K) : TInv (nxS c) (zap c) (9 * (zap c).length):=by
 rw [<- zcd hc h,h]
 exact (zez (nxS c) (begD c) K (by show K <= (touS c K).length;omega)).1
theorem zc6 {c : ChD} (hc : c.ok) : ∃ K,(touS c K).length = K:=by
 have : ∀ n,(∃ K,(touS c K).length = K) \/ n <= (touS c n).length:=by
  intro n
  induction n with
  | zero => exact .inr (Nat.zero_le _)
  | succ n ih =>
   rcases ih with h | h
   ·exact .inl h
   ·rcases Nat.lt_or_ge n (touS c n).length with hlt | hge
    ·right
     obtain ⟨a,ha⟩ : ∃ a,(touS c n)[n]? = some a:=⟨_,List.getElem?_eq_getElem hlt⟩
     exact (List.getElem?_eq_some_iff.1 (zjp ha)).1
    ·exact .inl ⟨n,by omega⟩
 rcases this 262145 with h | h
 ·exact h
 ·have:=zdx hc h;omega
theorem zd4 (f : zad) (sa ta va : Option Addr) (sl sc tl tc vl vc : Nat) (b : Int) (w : World) (hf : FleetAt w sa sl sc ta tl tc va vl vc f) :
  Calls Try.prog 12 #[.agg #[.slice sa sl sc,.slice ta tl tc,.slice va vl vc],.int .i64 b] w fun e W => ziy f b w.heap.size e W /\ Below w.heap.size w W:=by
 have f0:=box3 w (.slice sa sl sc) (.slice ta tl tc) (.slice va vl vc) 26
 have hio:=fun (W : World) (h : Below w.heap.size w W) => zgm f sa ta va sl sc tl tc vl vc W (hf.keep h)
 have hb0:=bel1 w (.cells #[.slice sa sl sc,.slice ta tl tc,.slice va vl vc] 26)
 cases hob : ordB f with
 | false =>
  rw [hob] at hio
  have hp : PlanIs f b [] 8:=by unfold PlanIs;rw [hob];simp
  have HP:= zab hp
  clear hf hp hob
  go_enter Try.func12,Try.ntmps12
  go_wp2_with (first
   | (go_at_call 16;refine (hio _ hb0).mono ?_;rintro e w1 ⟨rfl,hb1⟩;have f1:=zag hb1 f0))
  go_ret2
  exact ⟨zds HP.out,thn3 hb0 hb1⟩
 | true =>
  rw [hob] at hio
  have ho:=zeo hob
  have hch:=fun (W : World) (h : Below w.heap.size w W) => zgl f ho sa ta va sl sc tl tc vl vc W (hf.keep h)
  have hok:=za1 f
  by_cases hbb : b < 1
  ·have hp : PlanIs f b [] 11:=by unfold PlanIs;rw [if_pos hob,if_pos hbb];exact ⟨rfl,rfl⟩
   have HP:= zab hp
   clear hf hp hob hch ho
   go_enter Try.func12,Try.ntmps12
   go_wp2_with (first
    | (go_at_call 16;refine (hio _ hb0).mono ?_;rintro e w1 ⟨rfl,hb1⟩;have f1:=zag hb1 f0))
   go_ret2
   exact ⟨zds HP.out,thn3 hb0 hb1⟩
  have hsn:=fun (W : World) => zgo (zac f) hok W
  have hex:=fun (W : World) => zj8 (zac f) hok W
  have hi6 : (Try.prog.info? 50).map (·.size) = some (zac f).cells.length:=by rw [hok.len];exact Try.infoCht
  have h16 : (zac f).cells.toArray.all (·.oneCell') = true:=zb6 _
  have hCl:=hok.len
  obtain ⟨K,hK⟩:=zc6 hok
  have hsh:=fun (g cap : Nat) (W : World) (h : W.rangeAt g 0 (stsC (zap (zac f)))) => zkf (nxS (zac f)) (zap (zac f)) (zjr hok) (by rw [<- zcd hok hK];exact zdx hok (by omega)) _ (zdy hok hK) (zac f).wnt hok.wnt g cap W h
  have htz : ∀ g cap,(zah g (zap (zac f)).length cap (zac f).wnt).toArray.size = 10:=fun g cap => by simp [zah,hok.wnt]
  have hit2 : ∀ g cap,(Try.prog.info? 70).map (·.size) = some (zah g (zap (zac f)).length cap (zac f).wnt).toArray.size:=fun g cap => by rw [htz];exact Try.infoTour
  have hit : ∀ g cap,(Try.prog.info? 70).map (·.size) = some (zah g (zap (zac f)).length cap (zac f).wnt).length:=fun g cap => by have:=hit2 g cap;rwa [List.size_toArray] at this
  have hLl : (zap (zac f)).length <= 262144:=by rw [<- zcd hok hK];exact zdx hok (by omega)
  have hPI : ∀ (ms : List (Int × Int)) (err : Int),(if sndB (zac f) = true then (if b < (zap (zac f)).length then ms = [] /\ err = 12 else ((∀ t ∈ zap (zac f),t.now.has ≠ (zac f).wnt) /\ ms = [] /\ err = 13) \/ (FirstAt (zap (zac f)) (zac f).wnt ms /\ err = 0)) else ms = [] /\ err = 10) -> PlanIs f b ms err:=fun ms err h => by unfold PlanIs;rw [if_pos hob,if_neg hbb];exact h
  have hso:=zjr hok
  clear hK hok ho hob
  generalize hLdef : zap (zac f) = L at hex hsh htz hit2 hit hLl hPI hso
  clear hLdef
  generalize (zac f) = C at hch hsn hex hi6 h16 hCl hsh htz hit2 hit hPI
  have hi7 : (Try.prog.info? 50).map (·.size) = some C.cells.toArray.size:=by rw [List.size_toArray];exact hi6
  have hz : ∀ W : World,(W.alloc (.cells Try.zeroCells50 50)).there W.heap.size 0 C.cells.toArray.size:=fun W => by
   rw [show C.cells.toArray.size = 189 by simpa using hCl,Try.zeroCht]
   have:=zbh (zan W (.cells ((List.replicate 189 false).map Value.bool).toArray 50))
   simpa using this
  have hrs : ∀ W : World,(fun V : World => V.rangeAt W.heap.size 0 C.cells /\ Below W.heap.size W V) ((W.alloc (.cells Try.zeroCells50 50)).setCells W.heap.size 0 C.cells):=fun W => ⟨World.rangeAt_setCells_same _ W.heap.size 0 C.cells (by simpa using hz W),below_setCells W.heap.size (Nat.le_refl _) _ _ (belS _ _)⟩
  have htr : ∀ (g cap : Nat) (W : World),W.rangeAt g 0 (stsC L) -> ∀ cs : Array Value,cs.size = 10 -> (fun V : World => V.rangeAt W.heap.size 0 (zah g L.length cap C.wnt) /\ V.rangeAt g 0 (stsC L) /\ Below W.heap.size W V) ((W.alloc (.cells cs 70)).setCells W.heap.size 0 (zah g L.length cap C.wnt)):=fun g cap W hr cs hcs => by
   have hb:=below_setCells W.heap.size (Nat.le_refl _) (zah g L.length cap C.wnt) 0 (belS W (.cells cs 70))
   exact ⟨World.rangeAt_setCells_same _ _ _ _ (by simpa using zbq (xs:=(zah g L.length cap C.wnt).toArray) (t:=70) (htz g cap) hcs),zae hb hr,hb⟩
  have HZ:= zab hz
  have HRS:= zab hrs
  have HTR:= zab htr
  have HPI:= zab hPI
  clear hf hCl hz hrs htr hPI
  generalize sndB C = y at hsn HPI
  cases y with
  | false =>
   have HP : Hid (PlanIs f b [] 10):=HPI.out _ _ (by simp)
   clear HPI hex hsh
   go_enter Try.func12,Try.ntmps12
   go_wp2_with (first
    | (go_at_call 19;refine (hsn _).mono ?_;rintro e w4 ⟨rfl,hb4⟩;have rs4:=zae hb4 rs3;have B4 : Below w.heap.size w w4:=thn3 (thn3 (thn3 (thn3 hb0 hb1) hb2) hb3) hb4)
    | (have hq:=rs3;refine wpList_load_mid (w:=w3) rfl 50 _ rfl w2.heap.size 0 rfl C.cells _ rs3 Try.underlying50 rfl hi6 ?_;simp only [Act.put,List.setIfInBounds_toArray,List.set_cons_zero,List.set_cons_succ,List.getElem_toArray,List.getElem_cons_zero,List.getElem_cons_succ])
    | (have hq:=hz2;refine zbi rfl 50 _ _ rfl w2.heap.size 0 C.cells.toArray rfl rfl hz2 hi7 h16 (fun W => W.rangeAt w2.heap.size 0 C.cells /\ Below w2.heap.size w2 W) (HRS.out w2) ?_;rintro w3 ⟨rs3,hb3⟩;simp only [Act.put,List.setIfInBounds_toArray,List.set_cons_zero,List.set_cons_succ,List.getElem_toArray,List.getElem_cons_zero,List.getElem_cons_succ])
    | (go_at_call 17;refine (hch _ (thn3 hb0 hb1)).mono ?_;rintro e w2 ⟨rfl,hb2⟩;have hz2:=HZ.out w2)
    | (go_at_call 16;refine (hio _ hb0).mono ?_;rintro e w1 ⟨rfl,hb1⟩;have f1:=zag hb1 f0))
   go_ret2
   exact ⟨zds HP.out,B4⟩
  | true =>
   by_cases hlen : b < L.length
   ·have HP : Hid (PlanIs f b [] 12):=HPI.out _ _ (by simp [hlen])
    clear HPI hsh
    go_enter Try.func12,Try.ntmps12
    go_wp2_with (first
     | (go_at_call 28;refine (ze3 _ _ _ _ _).mono ?_;rintro e w7 ⟨rfl,hb7⟩;have rt7:=zae hb7 rt6;have rg7:=zae hb7 rg6;have B7:=thn3 B6 hb7)
     | (have hq:=rt6;refine wpList_load_mid (w:=w6) rfl 70 _ rfl w5.heap.size 0 rfl (zah g L.length cap C.wnt) _ rt6 Try.underlying70 rfl (hit g cap) ?_;simp only [Act.put,List.setIfInBounds_toArray,List.set_cons_zero,List.set_cons_succ,List.getElem_toArray,List.getElem_cons_zero,List.getElem_cons_succ])
     | (have hq:=rg5;refine zbi rfl 70 _ _ rfl w5.heap.size 0 (zah g L.length cap C.wnt).toArray rfl rfl (zbq (htz g cap) (by rfl)) (hit2 g cap) (zgd _ _ _ _) (fun W => W.rangeAt w5.heap.size 0 (zah g L.length cap C.wnt) /\ W.rangeAt g 0 (stsC L) /\ Below w5.heap.size w5 W) (HTR.out g cap w5 rg5 _ (by rfl)) ?_;rintro w6 ⟨rt6,rg6,hb6⟩;have B6:=thn3 B5 hb6;simp only [Act.put,List.setIfInBounds_toArray,List.set_cons_zero,List.set_cons_succ,List.getElem_toArray,List.getElem_cons_zero,List.getElem_cons_succ])
     | (go_at_call 27;refine (hex _).mono ?_;rintro e w5 ⟨g,cap,rfl,rg5,hb5⟩;have B5:=thn3 B4 hb5)
     | (have hq:=rs4;refine wpList_load_mid (w:=w4) rfl 50 _ rfl w2.heap.size 0 rfl C.cells _ rs4 Try.underlying50 rfl hi6 ?_;simp only [Act.put,List.setIfInBounds_toArray,List.set_cons_zero,List.set_cons_succ,List.getElem_toArray,List.getElem_cons_zero,List.getElem_cons_succ])
     | (go_at_call 19;refine (hsn _).mono ?_;rintro e w4 ⟨rfl,hb4⟩;have rs4:=zae hb4 rs3;have B4 : Below w.heap.size w w4:=thn3 (thn3 (thn3 (thn3 hb0 hb1) hb2) hb3) hb4)
     | (have hq:=rs3;refine wpList_load_mid (w:=w3) rfl 50 _ rfl w2.heap.size 0 rfl C.cells _ rs3 Try.underlying50 rfl hi6 ?_;simp only [Act.put,List.setIfInBounds_toArray,List.set_cons_zero,List.set_cons_succ,List.getElem_toArray,List.getElem_cons_zero,List.getElem_cons_succ])
     | (have hq:=hz2;refine zbi rfl 50 _ _ rfl w2.heap.size 0 C.cells.toArray rfl rfl hz2 hi7 h16 (fun W => W.rangeAt w2.heap.size 0 C.cells /\ Below w2.heap.size w2 W) (HRS.out w2) ?_;rintro w3 ⟨rs3,hb3⟩;simp only [Act.put,List.setIfInBounds_toArray,List.set_cons_zero,List.set_cons_succ,List.getElem_toArray,List.getElem_cons_zero,List.getElem_cons_succ])
     | (go_at_call 17;refine (hch _ (thn3 hb0 hb1)).mono ?_;rintro e w2 ⟨rfl,hb2⟩;have hz2:=HZ.out w2)
     | (go_at_call 16;refine (hio _ hb0).mono ?_;rintro e w1 ⟨rfl,hb1⟩;have f1:=zag hb1 f0))
    go_ret2
    exact ⟨zds HP.out,B7⟩
   ·have hlen' : (L.length : Int) <= b:=by omega
    have HP : Hid (∀ ms err,(((∀ t ∈ L,t.now.has ≠ C.wnt) /\ ms = [] /\ err = 13) \/ (FirstAt L C.wnt ms /\ err = 0)) -> PlanIs f b ms err):=fun ms err h => HPI.out _ _ (by rw [if_pos rfl,if_neg hlen];exact h)
    clear HPI hlen
    by_cases hno : ∀ t ∈ L,t.now.has ≠ C.wnt
    ·have hsh2 : ∀ (g cap : Nat) (W : World),W.rangeAt g 0 (stsC L) -> Calls Try.prog 29 #[.agg (zah g L.length cap C.wnt).toArray] W fun e V => e = .returned (.tuple #[.slice none 0 0,.bool false]) /\ Below W.heap.size W V:=fun g cap W h => by
      refine (hsh g cap W h).mono ?_
      rintro e V ⟨h1 | ⟨k,D,v,t,u,h1,h2,_⟩,hb⟩
      ·exact ⟨h1.2,hb⟩
      ·exact absurd h2 (hno t (List.mem_of_getElem? h1))
     have HP2:=(zab (HP.out [] 13 (.inl ⟨hno,rfl,rfl⟩)))
     clear HP hsh hno
     go_enter Try.func12,Try.ntmps12
     go_wp2_with (first
      | (go_at_call 29;refine (hsh2 g cap _ rg7).mono ?_;rintro e w8 ⟨rfl,hb8⟩)
      | (have hq:=rt7;refine wpList_load_mid (w:=w7) rfl 70 _ rfl w5.heap.size 0 rfl (zah g L.length cap C.wnt) _ rt7 Try.underlying70 rfl (hit g cap) ?_;simp only [Act.put,List.setIfInBounds_toArray,List.set_cons_zero,List.set_cons_succ,List.getElem_toArray,List.getElem_cons_zero,List.getElem_cons_succ])
      | (go_at_call 28;refine (ze3 _ _ _ _ _).mono ?_;rintro e w7 ⟨rfl,hb7⟩;have rt7:=zae hb7 rt6;have rg7:=zae hb7 rg6;have B7:=thn3 B6 hb7)
      | (have hq:=rt6;refine wpList_load_mid (w:=w6) rfl 70 _ rfl w5.heap.size 0 rfl (zah g L.length cap C.wnt) _ rt6 Try.underlying70 rfl (hit g cap) ?_;simp only [Act.put,List.setIfInBounds_toArray,List.set_cons_zero,List.set_cons_succ,List.getElem_toArray,List.getElem_cons_zero,List.getElem_cons_succ])
      | (have hq:=rg5;refine zbi rfl 70 _ _ rfl w5.heap.size 0 (zah g L.length cap C.wnt).toArray rfl rfl (zbq (htz g cap) (by rfl)) (hit2 g cap) (zgd _ _ _ _) (fun W => W.rangeAt w5.heap.size 0 (zah g L.length cap C.wnt) /\ W.rangeAt g 0 (stsC L) /\ Below w5.heap.size w5 W) (HTR.out g cap w5 rg5 _ (by rfl)) ?_;rintro w6 ⟨rt6,rg6,hb6⟩;have B6:=thn3 B5 hb6;simp only [Act.put,List.setIfInBounds_toArray,List.set_cons_zero,List.set_cons_succ,List.getElem_toArray,List.getElem_cons_zero,List.getElem_cons_succ])
      | (go_at_call 27;refine (hex _).mono ?_;rintro e w5 ⟨g,cap,rfl,rg5,hb5⟩;have B5:=thn3 B4 hb5)
      | (have hq:=rs4;refine wpList_load_mid (w:=w4) rfl 50 _ rfl w2.heap.size 0 rfl C.cells _ rs4 Try.underlying50 rfl hi6 ?_;simp only [Act.put,List.setIfInBounds_toArray,List.set_cons_zero,List.set_cons_succ,List.getElem_toArray,List.getElem_cons_zero,List.getElem_cons_succ])
      | (go_at_call 19;refine (hsn _).mono ?_;rintro e w4 ⟨rfl,hb4⟩;have rs4:=zae hb4 rs3;have B4 : Below w.heap.size w w4:=thn3 (thn3 (thn3 (thn3 hb0 hb1) hb2) hb3) hb4)
      | (have hq:=rs3;refine wpList_load_mid (w:=w3) rfl 50 _ rfl w2.heap.size 0 rfl C.cells _ rs3 Try.underlying50 rfl hi6 ?_;simp only [Act.put,List.setIfInBounds_toArray,List.set_cons_zero,List.set_cons_succ,List.getElem_toArray,List.getElem_cons_zero,List.getElem_cons_succ])
      | (have hq:=hz2;refine zbi rfl 50 _ _ rfl w2.heap.size 0 C.cells.toArray rfl rfl hz2 hi7 h16 (fun W => W.rangeAt w2.heap.size 0 C.cells /\ Below w2.heap.size w2 W) (HRS.out w2) ?_;rintro w3 ⟨rs3,hb3⟩;simp only [Act.put,List.setIfInBounds_toArray,List.set_cons_zero,List.set_cons_succ,List.getElem_toArray,List.getElem_cons_zero,List.getElem_cons_succ])
      | (go_at_call 17;refine (hch _ (thn3 hb0 hb1)).mono ?_;rintro e w2 ⟨rfl,hb2⟩;have hz2:=HZ.out w2)
      | (go_at_call 16;refine (hio _ hb0).mono ?_;rintro e w1 ⟨rfl,hb1⟩;have f1:=zag hb1 f0))
     go_ret2
     exact ⟨zds HP2.out,thn3 B7 hb8⟩
    ·have hsh2 : ∀ (g cap : Nat) (W : World),W.rangeAt g 0 (stsC L) -> Calls Try.prog 29 #[.agg (zah g L.length cap C.wnt).toArray] W fun e V => ∃ (u : Value) (ms : List (Int × Int)),e = .returned (.tuple #[u,.bool true]) /\ V.ownsRow W.heap.size 45 2 u ms.length (mvC ms) /\ PlanIs f b ms 0 /\ Below W.heap.size W V:=fun g cap W h => by
      refine (hsh g cap W h).mono ?_
      rintro e V ⟨h1 | ⟨k,D,v,t,u,h1,h2,h3,h4,h5,h6⟩,hb⟩
      ·exact absurd h1.1 hno
      ·exact ⟨u,wayL L v D,h5,by rw [zj0];exact h6,HP.out _ _ (.inr ⟨⟨k,D,v,t,h1,h2,h3,h4,rfl⟩,rfl⟩),hb⟩
     clear HP hsh hno
     go_enter Try.func12,Try.ntmps12
     go_wp2_with (first
      | (go_at_call 29;refine (hsh2 g cap _ rg7).mono ?_;rintro e w8 ⟨u,ms,rfl,hown8,hp8,hb8⟩;have hp8:= zab hp8;have hown8:=(zab hown8))
      | (have hq:=rt7;refine wpList_load_mid (w:=w7) rfl 70 _ rfl w5.heap.size 0 rfl (zah g L.length cap C.wnt) _ rt7 Try.underlying70 rfl (hit g cap) ?_;simp only [Act.put,List.setIfInBounds_toArray,List.set_cons_zero,List.set_cons_succ,List.getElem_toArray,List.getElem_cons_zero,List.getElem_cons_succ])
      | (go_at_call 28;refine (ze3 _ _ _ _ _).mono ?_;rintro e w7 ⟨rfl,hb7⟩;have rt7:=zae hb7 rt6;have rg7:=zae hb7 rg6;have B7:=thn3 B6 hb7)
      | (have hq:=rt6;refine wpList_load_mid (w:=w6) rfl 70 _ rfl w5.heap.size 0 rfl (zah g L.length cap C.wnt) _ rt6 Try.underlying70 rfl (hit g cap) ?_;simp only [Act.put,List.setIfInBounds_toArray,List.set_cons_zero,List.set_cons_succ,List.getElem_toArray,List.getElem_cons_zero,List.getElem_cons_succ])
      | (have hq:=rg5;refine zbi rfl 70 _ _ rfl w5.heap.size 0 (zah g L.length cap C.wnt).toArray rfl rfl (zbq (htz g cap) (by rfl)) (hit2 g cap) (zgd _ _ _ _) (fun W => W.rangeAt w5.heap.size 0 (zah g L.length cap C.wnt) /\ W.rangeAt g 0 (stsC L) /\ Below w5.heap.size w5 W) (HTR.out g cap w5 rg5 _ (by rfl)) ?_;rintro w6 ⟨rt6,rg6,hb6⟩;have B6:=thn3 B5 hb6;simp only [Act.put,List.setIfInBounds_toArray,List.set_cons_zero,List.set_cons_succ,List.getElem_toArray,List.getElem_cons_zero,List.getElem_cons_succ])
      | (go_at_call 27;refine (hex _).mono ?_;rintro e w5 ⟨g,cap,rfl,rg5,hb5⟩;have B5:=thn3 B4 hb5)
      | (have hq:=rs4;refine wpList_load_mid (w:=w4) rfl 50 _ rfl w2.heap.size 0 rfl C.cells _ rs4 Try.underlying50 rfl hi6 ?_;simp only [Act.put,List.setIfInBounds_toArray,List.set_cons_zero,List.set_cons_succ,List.getElem_toArray,List.getElem_cons_zero,List.getElem_cons_succ])
      | (go_at_call 19;refine (hsn _).mono ?_;rintro e w4 ⟨rfl,hb4⟩;have rs4:=zae hb4 rs3;have B4 : Below w.heap.size w w4:=thn3 (thn3 (thn3 (thn3 hb0 hb1) hb2) hb3) hb4)
      | (have hq:=rs3;refine wpList_load_mid (w:=w3) rfl 50 _ rfl w2.heap.size 0 rfl C.cells _ rs3 Try.underlying50 rfl hi6 ?_;simp only [Act.put,List.setIfInBounds_toArray,List.set_cons_zero,List.set_cons_succ,List.getElem_toArray,List.getElem_cons_zero,List.getElem_cons_succ])
      | (have hq:=hz2;refine zbi rfl 50 _ _ rfl w2.heap.size 0 C.cells.toArray rfl rfl hz2 hi7 h16 (fun W => W.rangeAt w2.heap.size 0 C.cells /\ Below w2.heap.size w2 W) (HRS.out w2) ?_;rintro w3 ⟨rs3,hb3⟩;simp only [Act.put,List.setIfInBounds_toArray,List.set_cons_zero,List.set_cons_succ,List.getElem_toArray,List.getElem_cons_zero,List.getElem_cons_succ])
      | (go_at_call 17;refine (hch _ (thn3 hb0 hb1)).mono ?_;rintro e w2 ⟨rfl,hb2⟩;have hz2:=HZ.out w2)
      | (go_at_call 16;refine (hio _ hb0).mono ?_;rintro e w1 ⟨rfl,hb1⟩;have f1:=zag hb1 f0))
     go_ret2
     exact ⟨⟨u,ms,0,rfl,hown8.out.mono B7.size,hp8.out⟩,thn3 B7 hb8⟩
end
section
set_option maxRecDepth 4000
open Go.RowKit
theorem Way.key {α : Type} {L : List (TS α)} {g D D' : Nat} {v v' : Nat -> Nat} (h : Way L g D v) (h' : Way L g D' v') : ∀ d,d <= D -> d <= D' /\ v (D - d) = v' (D' - d)
 | 0,_ => ⟨Nat.zero_le _,by rw [Nat.sub_zero,Nat.sub_zero,h.last,h'.last]⟩
 | d + 1,hd => by
  obtain ⟨h1,h2⟩:=Way.key h h' d (by omega)
  obtain ⟨p1,p2,a,ha,hf⟩:=h.step (D - (d + 1)) (by omega)
  rw [show D - (d + 1) + 1 = D - d by omega] at p1 p2 ha
  have hne : D' - d ≠ 0:=fun e => by rw [e,h'.zero] at h2;omega
  obtain ⟨q1,q2,b,hb,hg⟩:=h'.step (D' - (d + 1)) (by omega)
  rw [show D' - (d + 1) + 1 = D' - d by omega,<- h2,ha] at hb
  cases hb
  exact ⟨by omega,by rw [<- hf,<- hg]⟩
theorem Way.uniq {α : Type} {L : List (TS α)} {g D D' : Nat} {v v' : Nat -> Nat} (h : Way L g D v) (h' : Way L g D' v') : D = D' /\ ∀ t,t <= D -> v t = v' t:=by
 have h1:=(Way.key h h' D (Nat.le_refl _)).1
 have h2:=(Way.key h' h D' (Nat.le_refl _)).1
 obtain rfl : D = D':=by omega
 refine ⟨rfl,fun t ht => ?_⟩
 have:=(Way.key h h' (D - t) (by omega)).2
 rwa [show D - (D - t) = t by omega] at this
theorem zpv {L : List (TS SiD)} {v v' : Nat -> Nat} {D : Nat} (h : ∀ t,t <= D -> v t = v' t) : wayL L v D = wayL L v' D:=by
 unfold wayL
 refine List.map_congr_left fun t ht => ?_
 have:=List.mem_range.1 ht
 unfold wayM
 rw [h (t + 1) (by omega)]
theorem FirstAt.uniq {L : List (TS SiD)} {wn : List Bool} {ms ms' : List (Int × Int)} (h : FirstAt L wn ms) (h' : FirstAt L wn ms') : ms = ms':=by
 obtain ⟨k,D,v,t,hk,ht,hf,hw,rfl⟩:=h
 obtain ⟨k',D',v',t',hk',ht',hf',hw',rfl⟩:=h'
 have e1 : ¬ k < k':=fun hc => hf' k t hc hk ht
 have e2 : ¬ k' < k:=fun hc => hf k' t' hc hk' ht'
 obtain rfl : k = k':=by omega
 obtain ⟨rfl,he⟩:=hw.uniq hw'
 exact zpv he
theorem FirstAt.some {L : List (TS SiD)} {wn : List Bool} {ms : List (Int × Int)} (h : FirstAt L wn ms) (hn : ∀ t ∈ L,t.now.has ≠ wn) : False:=by
 obtain ⟨k,D,v,t,hk,ht,_⟩:=h
 exact hn t (List.mem_of_getElem? hk) ht
theorem PlanIs.uniq {f : zad} {b : Int} {ms ms' : List (Int × Int)} {e e' : Int} (h : PlanIs f b ms e) (h' : PlanIs f b ms' e') : ms = ms' /\ e = e':=by
 unfold PlanIs at h h'
 by_cases h1 : ordB f = true
 ·rw [if_pos h1] at h h'
  by_cases h2 : b < 1
  ·rw [if_pos h2] at h h';exact ⟨h.1.trans h'.1.symm,h.2.trans h'.2.symm⟩
  ·rw [if_neg h2] at h h'
   by_cases h3 : sndB (zac f) = true
   ·rw [if_pos h3] at h h'
    by_cases h4 : b < (zap (zac f)).length
    ·rw [if_pos h4] at h h';exact ⟨h.1.trans h'.1.symm,h.2.trans h'.2.symm⟩
    ·rw [if_neg h4] at h h'
     rcases h with ⟨hn,h5,h6⟩ | ⟨h5,h6⟩
     ·rcases h' with ⟨_,h7,h8⟩ | ⟨h7,_⟩
      ·exact ⟨h5.trans h7.symm,h6.trans h8.symm⟩
      ·exact (h7.some hn).elim
     ·rcases h' with ⟨hn,_,_⟩ | ⟨h7,h8⟩
      ·exact (h5.some hn).elim
      ·exact ⟨h5.uniq h7,h6.trans h8.symm⟩
   ·rw [if_neg h3] at h h';exact ⟨h.1.trans h'.1.symm,h.2.trans h'.2.symm⟩
 ·rw [if_neg h1] at h h';exact ⟨h.1.trans h'.1.symm,h.2.trans h'.2.symm⟩
end
section
set_option maxRecDepth 16000
open Go.RowKit
open Go.Lib (below_setCells)
theorem zj7 (c : ChD) (n cap : Nat) (a : Option Addr) (hl : 200 < n) (hn : n <= 2000000) (w : World) :
  Calls Try.prog 18 #[.agg c.cells.toArray,.slice a n cap] w fun e W => e = .returned (.bool false) /\ Below w.heap.size w W:=by
 have hl' : (200 : Int) < (n : Int):=by omega
 go_enter Try.func18,Try.ntmps18
 go_wp2_with fail
 go_ret
 exact ⟨rfl,belS _ _⟩
def amB (c : ChD) (ms : List (Int × Int)) : Bool:=decide (ms.length <= 200) && mvsB c (begD c) ms
theorem zj5 (c : ChD) (hc : c.ok) (ms : List (Int × Int)) (w : World) (a : Option Addr) (cap : Nat) (hl : ms.length <= 2000000) (hp : MvsAt w a ms) :
  Calls Try.prog 18 #[.agg c.cells.toArray,.slice a ms.length cap] w fun e W => e = .returned (.bool (amB c ms)) /\ Below w.heap.size w W:=by
 unfold amB
 by_cases h : ms.length <= 200
 ·rw [decide_eq_true h,Bool.true_and]
  exact zj6 c hc ms w a cap h hp
 ·rw [decide_eq_false h,Bool.false_and]
  exact zj7 c ms.length cap a (by omega) hl w
def zak (f : zad) (ms : List (Int × Int)) : Int × Int :=
 if ordB f = true then (if amB (zac f) ms = true then (if sndB (zac f) = true then ((sfN (zac f) (begD (zac f)) ms : Nat),0) else (0,10)) else (0,9)) else (0,8)
theorem zbw (f : zad) (sa ta va : Option Addr) (sl sc tl tc vl vc : Nat) (ms : List (Int × Int)) (ma : Option Addr) (mc : Nat) (w : World) (hf : FleetAt w sa sl sc ta tl tc va vl vc f) (hml : ms.length <= 2000000) (hm : MvsAt w ma ms) :
  Calls Try.prog 6 #[.agg #[.slice sa sl sc,.slice ta tl tc,.slice va vl vc],.slice ma ms.length mc] w fun e W => e = .returned (.tuple #[.int .i64 (zak f ms).1,.int .i64 (zak f ms).2]) /\ Below w.heap.size w W:=by
 have f0:=box3 w (.slice sa sl sc) (.slice ta tl tc) (.slice va vl vc) 26
 have hio:=fun (W : World) (h : Below w.heap.size w W) => zgm f sa ta va sl sc tl tc vl vc W (hf.keep h)
 unfold zak
 cases hob : ordB f with
 | false =>
  rw [hob] at hio
  simp only [Bool.false_eq_true,if_false]
  clear hf hm
  go_enter Try.func6,Try.ntmps6
  go_wp2_with (go_at_call 16;refine (hio _ (bel1 _ _)).mono ?_;rintro e w1 ⟨rfl,hb1⟩)
  go_ret2
  exact ⟨rfl,thn3 (bel1 _ _) hb1⟩
 | true =>
  rw [hob] at hio
  simp only [if_true]
  have ho:=zeo hob
  have hch:=fun (W : World) (h : Below w.heap.size w W) => zgl f ho sa ta va sl sc tl tc vl vc W (hf.keep h)
  have hok:=za1 f
  have ham:=fun (W : World) (h : Below w.heap.size w W) => zj5 (zac f) hok ms W ma mc hml (fun i m hi => by obtain ⟨b,o,h1,h2,h3⟩:=hm i m hi;exact ⟨b,o,h1,zaa h h2,zaa h h3⟩)
  have hsn:=fun (W : World) => zgo (zac f) hok W
  have hsf:=fun (hl : ms.length <= 200) (W : World) (h : Below w.heap.size w W) => zke (zac f) hok ms W ma mc hl (fun i m hi => by obtain ⟨b,o,h1,h2,h3⟩:=hm i m hi;exact ⟨b,o,h1,zaa h h2,zaa h h3⟩)
  have hi6 : (Try.prog.info? 50).map (·.size) = some (zac f).cells.length:=by rw [hok.len];exact Try.infoCht
  have h16 : (zac f).cells.toArray.all (·.oneCell') = true:=zb6 _
  have hCl:=hok.len
  have hleam : amB (zac f) ms = true -> ms.length <= 200:=fun h => by unfold amB at h;rw [Bool.and_eq_true] at h;exact of_decide_eq_true h.1
  generalize amB (zac f) ms = x at ham hleam
  generalize sndB (zac f) = y at hsn
  generalize (sfN (zac f) (begD (zac f)) ms) = z at hsf
  generalize (zac f).cells = C at hch ham hsn hsf hi6 h16 hCl
  have hi7 : (Try.prog.info? 50).map (·.size) = some C.toArray.size:=by rw [List.size_toArray];exact hi6
  have hz : ∀ W : World,(W.alloc (.cells Try.zeroCells50 50)).there W.heap.size 0 C.toArray.size:=fun W => by
   rw [show C.toArray.size = 189 by simpa using hCl,Try.zeroCht]
   have:=zbh (zan W (.cells ((List.replicate 189 false).map Value.bool).toArray 50))
   simpa using this
  have hrs : ∀ W : World,((W.alloc (.cells Try.zeroCells50 50)).setCells W.heap.size 0 C).rangeAt W.heap.size 0 C:=fun W => World.rangeAt_setCells_same _ W.heap.size 0 C (by simpa using hz W)
  have hbs : ∀ W : World,Below W.heap.size W ((W.alloc (.cells Try.zeroCells50 50)).setCells W.heap.size 0 C):=fun W => below_setCells W.heap.size (Nat.le_refl _) _ _ (belS _ _)
  have HRS:= zab hrs
  have HBS:= zab hbs
  have HZ:= zab hz
  clear hf hm ho hok hob hCl hrs hbs hz
  have hb0:=bel1 w (.cells #[.slice sa sl sc,.slice ta tl tc,.slice va vl vc] 26)
  cases x with
  | false =>
   simp only [Bool.false_eq_true,if_false]
   clear hsn hsf hleam
   go_enter Try.func6,Try.ntmps6
   go_wp2_with (first
    | (go_at_call 16;refine (hio _ hb0).mono ?_;rintro e w1 ⟨rfl,hb1⟩;have f1:=zag hb1 f0)
    | (go_at_call 17;refine (hch _ (thn3 hb0 hb1)).mono ?_;rintro e w2 ⟨rfl,hb2⟩;have hz2:=HZ.out w2;have rs2:=HRS.out w2;have bs2 : Below w.heap.size w ((w2.alloc (.cells Try.zeroCells50 50)).setCells w2.heap.size 0 C):=thn3 (thn3 (thn3 hb0 hb1) hb2) (HBS.out w2))
    | (go_at_call 18;refine (ham _ bs2).mono ?_;rintro e w3 ⟨rfl,hb3⟩)
    | (have hq:=hz2;refine wpList_store_mid rfl 50 _ _ rfl w2.heap.size 0 C.toArray rfl rfl hz2 hi7 h16 ?_)
    | (have hq:=rs2;refine wpList_load_mid rfl 50 _ rfl w2.heap.size 0 rfl C _ rs2 Try.underlying50 rfl hi6 ?_))
   go_ret2
   exact ⟨rfl,thn3 bs2 hb3⟩
  | true =>
   simp only [if_true]
   have hsf:=hsf (hleam rfl)
   cases y with
   | false =>
    simp only [Bool.false_eq_true,if_false]
    clear hsf hleam
    go_enter Try.func6,Try.ntmps6
    go_wp2_with (first
     | (go_at_call 16;refine (hio _ hb0).mono ?_;rintro e w1 ⟨rfl,hb1⟩;have f1:=zag hb1 f0)
     | (go_at_call 17;refine (hch _ (thn3 hb0 hb1)).mono ?_;rintro e w2 ⟨rfl,hb2⟩;have hz2:=HZ.out w2;have rs2:=HRS.out w2;have bs2 : Below w.heap.size w ((w2.alloc (.cells Try.zeroCells50 50)).setCells w2.heap.size 0 C):=thn3 (thn3 (thn3 hb0 hb1) hb2) (HBS.out w2))
     | (go_at_call 18;refine (ham _ bs2).mono ?_;rintro e w3 ⟨rfl,hb3⟩;have rs3:=zae hb3 rs2)
     | (go_at_call 19;refine (hsn _).mono ?_;rintro e w4 ⟨rfl,hb4⟩)
     | (have hq:=hz2;refine wpList_store_mid rfl 50 _ _ rfl w2.heap.size 0 C.toArray rfl rfl hz2 hi7 h16 ?_)
     | (have hq:=rs3;refine wpList_load_mid rfl 50 _ rfl w2.heap.size 0 rfl C _ rs3 Try.underlying50 rfl hi6 ?_)
     | (have hq:=rs2;refine wpList_load_mid rfl 50 _ rfl w2.heap.size 0 rfl C _ rs2 Try.underlying50 rfl hi6 ?_))
    go_ret2
    exact ⟨rfl,thn3 (thn3 bs2 hb3) hb4⟩
   | true =>
    simp only [if_true]
    clear hleam
    go_enter Try.func6,Try.ntmps6
    go_wp2_with (first
     | (go_at_call 16;refine (hio _ hb0).mono ?_;rintro e w1 ⟨rfl,hb1⟩;have f1:=zag hb1 f0)
     | (go_at_call 17;refine (hch _ (thn3 hb0 hb1)).mono ?_;rintro e w2 ⟨rfl,hb2⟩;have hz2:=HZ.out w2;have rs2:=HRS.out w2;have bs2 : Below w.heap.size w ((w2.alloc (.cells Try.zeroCells50 50)).setCells w2.heap.size 0 C):=thn3 (thn3 (thn3 hb0 hb1) hb2) (HBS.out w2))
     | (go_at_call 18;refine (ham _ bs2).mono ?_;rintro e w3 ⟨rfl,hb3⟩;have rs3:=zae hb3 rs2)
     | (go_at_call 19;refine (hsn _).mono ?_;rintro e w4 ⟨rfl,hb4⟩;have rs4:=zae hb4 rs3)
     | (go_at_call 20;refine (hsf _ (thn3 (thn3 bs2 hb3) hb4)).mono ?_;rintro e w5 ⟨rfl,hb5⟩)
     | (have hq:=hz2;refine wpList_store_mid rfl 50 _ _ rfl w2.heap.size 0 C.toArray rfl rfl hz2 hi7 h16 ?_)
     | (have hq:=rs4;refine wpList_load_mid rfl 50 _ rfl w2.heap.size 0 rfl C _ rs4 Try.underlying50 rfl hi6 ?_)
     | (have hq:=rs3;refine wpList_load_mid rfl 50 _ rfl w2.heap.size 0 rfl C _ rs3 Try.underlying50 rfl hi6 ?_)
     | (have hq:=rs2;refine wpList_load_mid rfl 50 _ rfl w2.heap.size 0 rfl C _ rs2 Try.underlying50 rfl hi6 ?_))
    go_ret2
    exact ⟨rfl,thn3 (thn3 (thn3 bs2 hb3) hb4) hb5⟩
end
end Go.Proofs.Ytkkekopomiehlab
