import Derived.Test.YtkkekopomiehlaaGreatCRp7
set_option linter.unusedVariables false
set_option linter.unusedSimpArgs false
set_option maxHeartbeats 40000000
set_option maxRecDepth 4000
namespace Go.Proofs.YtkkekopomiehlaaGreat
section
open Go.RowKit
theorem zvb {p : Nat -> Prop} : ∀ n,p n -> ∃ k,p k /\ ∀ i,i < k -> ¬ p i:=by
 intro n
 induction n using Nat.strongRecOn with
 | ind n ih =>
  intro hp
  by_cases h : ∃ m,m < n /\ p m
  ·obtain ⟨m,hm,hpm⟩:=h;exact ih m hm hpm
  ·exact ⟨n,hp,fun i hi hpi => h ⟨i,hi,hpi⟩⟩
theorem zka {f : zae} (ho : Ord f) {L : List (TS SiD)} {l : List SE} (h : LR f L l) {i : Nat} {t : TS SiD} (ht : L[i]? = some t) : gB f.vs l i = decide (t.now.has = (zad f).wnt):=by
 obtain ⟨e,he,hr,_⟩:=h.get ht
 unfold gB;rw [he];exact hr.goal ho
theorem zpy {f : zae} (ho : Ord f) {L : List (TS SiD)} {l : List SE} {E : List (Nat × Nat × Nat)} {F : List Int} (hI : TInv (nxS (zad f)) L (9 * L.length)) (hl0 : 0 < L.length) (hlr : LR f L l) (he : EdgesOk (nxS (zad f)) L E) (hF : zd7 E (gB f.vs l) l.length F) :
  ((∀ t ∈ L,t.now.has ≠ (zad f).wnt) /\ ∃ x,F[0]? = some x /\ x < 0) \/
  ∃ (D g : Nat) (v : Nat -> Nat),FirstAt L (zad f).wnt (wayL L v D) /\ v 0 = 0 /\ (∀ t,t < D -> v t < v (t + 1)) /\ (∀ t,t <= D -> v t <= g /\ t <= v t) /\ g < l.length /\ (∀ t,t <= D -> F[v t]? = some ((D : Int) - t)) /\ ∀ t,t < D -> ∃ b p : Nat,zbf E F (v t) E.length = b /\ E[b]? = some (v t,v (t + 1),p) /\ wayM L v t = mvOf p:=by
 rw [hlr.len] at hF
 by_cases hex : ∃ (k : Nat) (t : TS SiD),L[k]? = some t /\ t.now.has = (zad f).wnt
 ·obtain ⟨k0,hk0⟩:=hex
  obtain ⟨k,⟨t,ht,hw⟩,hmin⟩:=zvb (p:=fun k => ∃ t : TS SiD,L[k]? = some t /\ t.now.has = (zad f).wnt) k0 hk0
  have hkl:=(List.getElem?_eq_some_iff.1 ht).1
  obtain ⟨D,v,hv⟩:=zr4 hI k k (Nat.le_refl _) hkl
  have hG : gB f.vs l k = true:=by rw [zka ho hlr ht];exact decide_eq_true hw
  have hg : ∀ i,i < k -> gB f.vs l i = false:=fun i hi => by
   obtain ⟨s,hs⟩ : ∃ s,L[i]? = some s:=⟨_,List.getElem?_eq_getElem (by omega)⟩
   rw [zka ho hlr hs];exact decide_eq_false fun h => hmin i hi ⟨s,hs,h⟩
  refine .inr ⟨D,k,v,⟨k,D,v,t,ht,hw,fun i s hi hs h => hmin i hi ⟨s,hs,h⟩,hv,rfl⟩,hv.zero,fun t ht => (hv.step t ht).2.1,fun t ht => ⟨hv.le ht,hv.ge t ht⟩,by rw [hlr.len];exact hkl,fun t ht => ?_,fun t ht => ?_⟩
  ·have hl : v t < F.length:=by rw [hF.1];have:=hv.le ht;omega
   have hx : F[v t]? = some F[v t]:=List.getElem?_eq_getElem hl
   rw [zja hI he hv hG hg hF ht hx] at hx
   exact hx
  ·obtain ⟨_,_,x,hx,_⟩:=hv.step t ht
   obtain ⟨b,hb,hE⟩:=yabb hI he hv hG hg hkl hF ht hx
   exact ⟨b,x.to,hb,hE,by unfold wayM;rw [hx]⟩
 ·refine .inl ⟨fun t ht h => ?_,?_⟩
  ·obtain ⟨k,hk⟩:=List.getElem?_of_mem ht
   exact hex ⟨k,t,hk,h⟩
  ·have hx : F[0]? = some (F[0]'(by rw [hF.1];exact hl0)):=List.getElem?_eq_getElem _
   refine ⟨_,hx,?_⟩
   apply Int.lt_of_not_ge
   intro hge
   have h1:=(hF.2 0 _ hx).1 hge
   rw [zj5 he (fun i hi => ?_) _ 0 hl0] at h1
   ·cases h1
   ·obtain ⟨s,hs⟩ : ∃ s,L[i]? = some s:=⟨_,List.getElem?_eq_getElem hi⟩
    rw [zka ho hlr hs];exact decide_eq_false fun h => hex ⟨i,s,hs,h⟩
theorem Ms.far {base g cap : Nat} {w wr : World} {l m : List SE} (h : Ms base g cap w l wr m) : FarAt wr g (m.map SE.far):=fun i x hx => by
 rw [List.getElem?_map] at hx
 obtain ⟨e,he,rfl⟩:=Option.map_eq_some_iff.1 hx
 exact (zeg (zc2 h.own) he).2.2
theorem EdAt.but {g : Nat} {w w' : World} (h : KeptBut g w w') {a : Option Addr} {E : List (Nat × Nat × Nat)} (he : EdAt w a E) (hne : ∀ b,a = some ⟨b,0,none⟩ -> b ≠ g) : EdAt w' a E:=fun k e hk => by
 obtain ⟨b,h0,h1,h2,h3,h4⟩:=he k e hk
 have:=hne b h0
 exact ⟨b,h0,h.cell this h1,h.cell this h2,h.cell this h3,h.cell this h4⟩
theorem yabd {f : zae} {w : World} {sa ta va : Option Addr} {sl sc tl tc vl vc g : Nat} (h : FleetAt w sa sl sc ta tl tc va vl vc f) (hg : w.heap.size <= g) : WantAt w g va f.vs:=fun s v hv => by
 obtain ⟨b,o,ra,rl,rc,h1,q0,q1,q2,q3,_⟩:=h.v3 s v hv
 exact ⟨b,o,h1,by have:=zaf q2;omega,q2⟩
theorem WantAt.keep {w w' : World} {g : Nat} {va : Option Addr} {vs : List SvcD} (h : WantAt w g va vs) (hb : Below w.heap.size w w') : WantAt w' g va vs:=fun s v hv => by
 obtain ⟨b,o,h1,h2,h3⟩:=h s v hv
 exact ⟨b,o,h1,h2,zaa hb h3⟩
theorem zor {f : zae} {sa ta va : Option Addr} {sl sc tl tc vc g : Nat} {Em Km : List (List Bool)} {w4 w5 : World} (hL : LookAt w4 g sa sl sc ta tl tc va f.vs.length vc f Em Km) {gl cl ec : Nat} {l : List SE} {ea : Option Addr} {E : List (Nat × Nat × Nat)} {L : List (TS SiD)} (h3 : f.vs.length <= 3) (h : Rc f w4 w5 gl cl l (.slice ea E.length ec) E L []) (hE : EdgesOk (nxS (zad f)) L E) (hEl : E.length <= 9 * l.length) (hn : l.length <= 262144) (hed : EdAt w5 ea E) :
  Calls Tryz.prog 38 #[.pointer (some ⟨g,0,none⟩),.slice (some ⟨gl,0,none⟩) l.length cl,.slice ea E.length ec] w5 fun e W => e = .returned (.tuple #[]) /\ ∃ F,zd7 E (gB f.vs l) l.length F /\ FarAt W gl F /\ EdAt W ea E /\ Below w4.heap.size w4 W:=by
 have hgl:=h.own.lt gl rfl
 have hg4:=zaf hL.c2
 refine (zvx l l.length rfl (by omega) E (fun e he => by rw [h.lr.len];exact hE.lt e he) (by omega) f.vs g va vc w4.heap.size gl cl ea ec w5 (zaa h.bel hL.c2) (by omega) (WantAt.keep (yabd hL.fl hgl.1) h.bel) h3 (fun e he => ?_) hed (fun b hb hc => ?_) h.own).mono ?_
 ·obtain ⟨j,hj⟩:=List.getElem?_of_mem he
  obtain ⟨t,ht⟩ : ∃ t,L[j]? = some t:=⟨L[j]'(by rw [<- h.lr.len];exact (List.getElem?_eq_some_iff.1 hj).1),List.getElem?_eq_getElem _⟩
  have hs:=h.ses e he
  exact ⟨(h.lr.rq j t e ht hj).2,hs.1,(h.ne e he).1.1,hs.2.2.1⟩
 ·subst hb hc;exact h.ge rfl
 ·rintro e W ⟨hee,m,hMs,hFar⟩
  exact ⟨hee,_,hFar,hMs.far,EdAt.but hMs.kept hed (fun b hb hc => by subst hb hc;exact h.ge rfl),h.bel.trans hMs.bel⟩
theorem zrm (f : zae) : TInv (nxS (zad f)) (zav (zad f)) (9 * (zav (zad f)).length):=by
 obtain ⟨K,hK⟩:=zg5 (zb5 f)
 exact zrk (zb5 f) hK
theorem zlv (f : zae) : 0 < (zav (zad f)).length:=by
 obtain ⟨K,hK⟩:=zg5 (zb5 f)
 rw [<- zek (zb5 f) hK]
 have h0 : (touS (zad f) K)[0]? = some ⟨begD (zad f),0,0⟩:=zlr _ _ _
 exact (List.getElem?_eq_some_iff.1 h0).1
theorem zoi {f : zae} {l : List SE} (h : LR f (zav (zad f)) l) : (0 : Int) < (l.length : Int):=by
 have:=zlv f
 rw [h.len];omega
theorem zvy {f : zae} (ho : Ord f) {sa ta va : Option Addr} {sl sc tl tc vl vc g : Nat} {Em Km : List (List Bool)} {w4 w5 : World} (hL : LookAt w4 g sa sl sc ta tl tc va vl vc f Em Km) {gl cl ec : Nat} {l : List SE} {ea : Option Addr} {E : List (Nat × Nat × Nat)} (h3 : f.vs.length <= 3) (h : Rc f w4 w5 gl cl l (.slice ea E.length ec) E (zav (zad f)) []) (hE : EdgesOk (nxS (zad f)) (zav (zad f)) E) (hEl : E.length <= 9 * l.length) (hn : l.length <= 262144) (hed : EdAt w5 ea E) (hno : ∀ t ∈ zav (zad f),t.now.has ≠ (zad f).wnt) :
  Calls Tryz.prog 38 #[.pointer (some ⟨g,0,none⟩),.slice (some ⟨gl,0,none⟩) l.length cl,.slice ea E.length ec] w5 fun e W => e = .returned (.tuple #[]) /\ ∃ x : Int,x < 0 /\ W.cell? ⟨gl,2,none⟩ = some (.int .i64 x) /\ Below w4.heap.size w4 W:=by
 have hv1:=hL.fl.v1
 subst hv1
 refine (zor hL h3 h hE hEl hn hed).mono ?_
 rintro e W ⟨hee,F,h1,h2,_,h4⟩
 rcases zpy ho (zrm f) (zlv f) h.lr hE h1 with ⟨_,x,hx,hx0⟩ | ⟨D,gg,v,hFA,_⟩
 ·exact ⟨hee,x,hx0,by have:=h2 0 x hx;simpa using this,h4⟩
 ·exact (hFA.some hno).elim
theorem zvz {f : zae} (ho : Ord f) {sa ta va : Option Addr} {sl sc tl tc vl vc g : Nat} {Em Km : List (List Bool)} {w4 w5 : World} (hL : LookAt w4 g sa sl sc ta tl tc va vl vc f Em Km) {gl cl ec : Nat} {l : List SE} {ea : Option Addr} {E : List (Nat × Nat × Nat)} (h3 : f.vs.length <= 3) (h : Rc f w4 w5 gl cl l (.slice ea E.length ec) E (zav (zad f)) []) (hE : EdgesOk (nxS (zad f)) (zav (zad f)) E) (hEl : E.length <= 9 * l.length) (hn : l.length <= 262144) (hed : EdAt w5 ea E) (hno : ¬ ∀ t ∈ zav (zad f),t.now.has ≠ (zad f).wnt) :
  Calls Tryz.prog 38 #[.pointer (some ⟨g,0,none⟩),.slice (some ⟨gl,0,none⟩) l.length cl,.slice ea E.length ec] w5 fun e W => e = .returned (.tuple #[]) /\ ∃ (F : List Int) (D gg : Nat) (v : Nat -> Nat) (M : Nat -> Int × Int),F.length = l.length /\ Hid (FirstAt (zav (zad f)) (zad f).wnt ((List.range D).map M)) /\ Hid (FarAt W gl F) /\ Hid (EdAt W ea E) /\ v 0 = 0 /\ Hid (∀ t,t < D -> v t < v (t + 1)) /\ Hid (∀ t,t <= D -> v t <= gg /\ t <= v t) /\ gg < l.length /\ Hid (∀ t,t <= D -> F[v t]? = some ((D : Int) - t)) /\ Hid (∀ t,t < D -> ∃ b p : Nat,zbf E F (v t) E.length = b /\ E[b]? = some (v t,v (t + 1),p) /\ M t = mvOf p) /\ Below w4.heap.size w4 W:=by
 have hv1:=hL.fl.v1
 subst hv1
 refine (zor hL h3 h hE hEl hn hed).mono ?_
 rintro e W ⟨hee,F,h1,h2,h3,h4⟩
 rcases zpy ho (zrm f) (zlv f) h.lr hE h1 with ⟨h5,_⟩ | ⟨D,gg,v,hFA,k1,k2,k3,k4,k5,k6⟩
 ·exact (hno h5).elim
 ·exact ⟨hee,F,D,gg,v,wayM (zav (zad f)) v,h1.1,hFA,h2,h3,k1,k2,k3,k4,k5,k6,h4⟩
theorem far0 {W : World} {gl D : Nat} {F : List Int} {v : Nat -> Nat} (h : FarAt W gl F) (hv : v 0 = 0) (hF : F[v 0]? = some ((D : Int) - (0 : Nat))) : W.cell? ⟨gl,2,none⟩ = some (.int .i64 (D : Int)):=by
 rw [hv] at hF
 have:=h 0 _ hF
 simpa using this
theorem zx4 (f : zae) (ho : Ord f) (sa ta va : Option Addr) (sl sc tl tc vl vc : Nat) (g : Nat) (Em Km : List (List Bool)) (w : World) (hV : LookAt w g sa sl sc ta tl tc va vl vc f Em Km) :
  Calls Tryz.prog 37 #[.pointer (some ⟨g,0,none⟩)] w fun e W => ∃ (gl cl : Nat) (l : List SE) (ve : Value) (E : List (Nat × Nat × Nat)),e = .returned (.tuple #[.slice (some ⟨gl,0,none⟩) l.length cl,ve]) /\ Hid (Rc f w W gl cl l ve E (zav (zad f)) []) /\ Hid (EdgesOk (nxS (zad f)) (zav (zad f)) E) /\ E.length <= 9 * l.length /\ l.length = (zav (zad f)).length:=by
 refine (zx3 f ho sa ta va sl sc tl tc vl vc g Em Km w hV).mono ?_
 rintro e W ⟨gl,cl,l,ve,E,h1,h2,h3,h4⟩
 exact ⟨gl,cl,l,ve,E,h1,h2,h3,h4,h2.lr.len⟩
theorem zwv {w : World} {B B' : Nat} {e : TypeId} {size n : Nat} {v : Value} {xs : List Value} (hB : B' <= B) (h : w.ownsRow B e size v n xs) : w.ownsRow B' e size v n xs:=by
 obtain ⟨hl,h | ⟨g,cap,cur,hv,hb,hr⟩⟩:=h
 ·exact ⟨hl,.inl h⟩
 ·exact ⟨hl,.inr ⟨g,cap,cur,hv,by omega,hr⟩⟩
theorem zxz (f : zae) (sa ta va : Option Addr) (sl sc tl tc vl vc : Nat) (b : Int) (w : World) (hf : FleetAt w sa sl sc ta tl tc va vl vc f) :
  Calls Tryz.prog 12 #[.agg #[.slice sa sl sc,.slice ta tl tc,.slice va vl vc],.int .i64 b] w fun e W => zij f b w.heap.size e W /\ Below w.heap.size w W:=by
 have f0:=box3 w (.slice sa sl sc) (.slice ta tl tc) (.slice va vl vc) 26
 have hio:=fun (W : World) (h : Below w.heap.size w W) => zxy f sa ta va sl sc tl tc vl vc W (hf.keep h)
 rw [zx8] at hio
 have hb0:=bel1 w (.cells #[.slice sa sl sc,.slice ta tl tc,.slice va vl vc] 26)
 cases hob : ordB f with
 | false =>
  rw [hob] at hio
  have hp : PlanIs f b [] 8:=by unfold PlanIs;rw [hob];simp
  have HP:= zab hp
  clear hf hp hob
  go_enter Tryz.func12,Tryz.ntmps12
  go_wp2_with (go_at_call 28;refine (hio _ hb0).mono ?_;rintro e w1 ⟨rfl,hb1⟩)
  go_ret2
  exact ⟨zdn HP.out,thn3 hb0 hb1⟩
 | true =>
  rw [hob] at hio
  have ho:=zo5 hob
  by_cases hbb : b < 1
  ·have hp : PlanIs f b [] 11:=by unfold PlanIs;rw [if_pos hob,if_pos hbb];exact ⟨rfl,rfl⟩
   have HP:= zab hp
   clear hf hp hob ho
   go_enter Tryz.func12,Tryz.ntmps12
   go_wp2_with (go_at_call 28;refine (hio _ hb0).mono ?_;rintro e w1 ⟨rfl,hb1⟩)
   go_ret2
   exact ⟨zdn HP.out,thn3 hb0 hb1⟩
  have hlo:=fun (W : World) (h : Below w.heap.size w W) => zsf f ho sa ta va sl sc tl tc vl vc W (hf.keep h)
  have hsn:=fun (g : Nat) (E K : List (List Bool)) (W : World) (h : LookAt W g sa sl sc ta tl tc va vl vc f E K) => zzn f ho sa ta va sl sc tl tc vl vc g E K W h
  have hPI : ∀ (ms : List (Int × Int)) (err : Int),(if sndB (zad f) = true then (if b < (zav (zad f)).length then ms = [] /\ err = 12 else ((∀ t ∈ zav (zad f),t.now.has ≠ (zad f).wnt) /\ ms = [] /\ err = 13) \/ (FirstAt (zav (zad f)) (zad f).wnt ms /\ err = 0)) else ms = [] /\ err = 10) -> PlanIs f b ms err:=fun ms err h => by unfold PlanIs;rw [if_pos hob,if_neg hbb];exact h
  rw [zzk ho] at hPI
  cases hrn : rndB f with
  | false =>
   rw [hrn] at hsn hPI
   have hp : PlanIs f b [] 10:=hPI _ _ (by rw [if_neg (by simp)];exact ⟨rfl,rfl⟩)
   have HP:= zab hp
   clear hf hp hob ho hPI hrn
   go_enter Tryz.func12,Tryz.ntmps12
   go_wp2_with (first
    | (go_at_call 28;refine (hio _ hb0).mono ?_;rintro e w1 ⟨rfl,hb1⟩;have f1:=zak hb1 f0)
    | (go_at_call 30;refine (hlo _ (thn3 hb0 hb1)).mono ?_;rintro e w3 ⟨g,E,K,rfl,hLk,hb3⟩;have hLk:=(zab hLk))
    | (go_at_call 31;refine (hsn g E K _ hLk.out).mono ?_;rintro e w4 ⟨rfl,hb4⟩))
   go_ret2
   exact ⟨zdn HP.out,thn3 (thn3 (thn3 hb0 hb1) hb3) hb4⟩
  | true =>
   rw [hrn] at hsn hPI
   have hPI2 : ∀ (ms : List (Int × Int)) (err : Int),(if b < (zav (zad f)).length then ms = [] /\ err = 12 else ((∀ t ∈ zav (zad f),t.now.has ≠ (zad f).wnt) /\ ms = [] /\ err = 13) \/ (FirstAt (zav (zad f)) (zad f).wnt ms /\ err = 0)) -> PlanIs f b ms err:=fun ms err h => hPI ms err (by rw [if_pos rfl];exact h)
   have hre:=fun (g : Nat) (E K : List (List Bool)) (W : World) (h : LookAt W g sa sl sc ta tl tc va vl vc f E K) => zx4 f ho sa ta va sl sc tl tc vl vc g E K W h
   obtain ⟨n,hn⟩ : ∃ n,n = (zav (zad f)).length:=⟨_,rfl⟩
   have hLl : n <= 262144:=by rw [hn];obtain ⟨K,hK⟩:=zg5 (zb5 f);rw [<- zek (zb5 f) hK];exact zej (zb5 f) (by omega)
   rw [<- hn] at hre hPI2
   have h3:=ho.vs3
   have HO:= zab ho
   by_cases hbig : b < (n : Int)
   ·have HP:=(zab (hPI2 [] 12 (by rw [if_pos hbig];exact ⟨rfl,rfl⟩)))
    clear hf ho hob hPI hPI2 hrn hn
    go_enter Tryz.func12,Tryz.ntmps12
    go_wp2_with (first
     | (go_at_call 28;refine (hio _ hb0).mono ?_;rintro e w1 ⟨rfl,hb1⟩;have f1:=zak hb1 f0)
     | (go_at_call 30;refine (hlo _ (thn3 hb0 hb1)).mono ?_;rintro e w3 ⟨g,Em,Km,rfl,hLk,hb3⟩;have hLk:= zab hLk;have hb3:=(zab (thn3 (thn3 hb0 hb1) hb3)))
     | (go_at_call 31;refine (hsn g Em Km _ hLk.out).mono ?_;rintro e w4 ⟨rfl,hb4⟩;have hLk4:=(zab (hLk.out.keep hb4));have hb4:=(zab (thn3 hb3.out hb4)))
     | (go_at_call 37;refine (hre g Em Km _ hLk4.out).mono ?_;rintro e w5 ⟨gl,cl,l,ve,E,rfl,HRc,HEd,hEl,hll⟩;have hb5:=(zab (thn3 hb4.out HRc.out.bel));have hxb : b < (l.length : Int):=(by omega);clear hll))
    go_ret2
    exact ⟨zdn HP.out,hb5.out⟩
   by_cases hno : ∀ t ∈ zav (zad f),t.now.has ≠ (zad f).wnt
   ·have HP:=(zab (hPI2 [] 13 (by rw [if_neg hbig];exact .inl ⟨hno,rfl,rfl⟩)))
    have HNO:= zab hno
    clear hf ho hob hPI hPI2 hrn hn hno
    go_enter Tryz.func12,Tryz.ntmps12
    go_wp2_with (first
     | (go_at_call 28;refine (hio _ hb0).mono ?_;rintro e w1 ⟨rfl,hb1⟩;have f1:=zak hb1 f0)
     | (go_at_call 30;refine (hlo _ (thn3 hb0 hb1)).mono ?_;rintro e w3 ⟨g,Em,Km,rfl,hLk,hb3⟩;have hLk:= zab hLk;have hb3:=(zab (thn3 (thn3 hb0 hb1) hb3)))
     | (go_at_call 31;refine (hsn g Em Km _ hLk.out).mono ?_;rintro e w4 ⟨rfl,hb4⟩;have hLk4:=(zab (hLk.out.keep hb4));have hb4:=(zab (thn3 hb3.out hb4)))
     | (go_at_call 37;refine (hre g Em Km _ hLk4.out).mono ?_;rintro e w5 ⟨gl,cl,l,ve,E,rfl,HRc,HEd,hEl,hll⟩;obtain ⟨ea,ec,rfl,hea⟩:=zna HRc.out.oe rfl;have hxb : ¬ b < (l.length : Int):=(by omega);have hl1 : l.length <= 262144:=(by omega);have hl0 : (0 : Int) < (l.length : Int):=zoi HRc.out.lr;have HEA:= zab hea;clear hll hea)
     | (go_at_call 38;refine (zvy HO.out hLk4.out h3 HRc.out HEd.out hEl hl1 HEA.out HNO.out).mono ?_;rintro e w6 ⟨rfl,x,hx,c2,hb6⟩;have hb6:=(zab (thn3 hb4.out hb6));have lgl:=zaf c2))
    go_ret2
    exact ⟨zdn HP.out,hb6.out⟩
   ·have HPI:=(zab (fun ms (h : FirstAt (zav (zad f)) (zad f).wnt ms) => hPI2 ms 0 (by rw [if_neg hbig];exact .inr ⟨h,rfl⟩)))
    have HNO:= zab hno
    obtain ⟨iM,hiM,zM0,zM1,zM2⟩:=info_parts Tryz.infoMvL
    clear hf ho hob hPI hPI2 hrn hn hno
    go_enter Tryz.func12,Tryz.ntmps12
    go_wp2_with (first
     | (go_at_call 28;refine (hio _ hb0).mono ?_;rintro e w1 ⟨rfl,hb1⟩;have f1:=zak hb1 f0)
     | (go_at_call 30;refine (hlo _ (thn3 hb0 hb1)).mono ?_;rintro e w3 ⟨g,Em,Km,rfl,hLk,hb3⟩;have hLk:= zab hLk;have hb3:=(zab (thn3 (thn3 hb0 hb1) hb3)))
     | (go_at_call 31;refine (hsn g Em Km _ hLk.out).mono ?_;rintro e w4 ⟨rfl,hb4⟩;have hLk4:=(zab (hLk.out.keep hb4));have hb4:=(zab (thn3 hb3.out hb4)))
     | (go_at_call 37;refine (hre g Em Km _ hLk4.out).mono ?_;rintro e w5 ⟨gl,cl,l,ve,E,rfl,HRc,HEd,hEl,hll⟩;obtain ⟨ea,ec,rfl,hea⟩:=zna HRc.out.oe rfl;have hxb : ¬ b < (l.length : Int):=(by omega);have hl1 : l.length <= 262144:=(by omega);have hl0 : (0 : Int) < (l.length : Int):=zoi HRc.out.lr;have HEA:= zab hea;clear hll hea)
     | (go_at_call 38;refine (zvz HO.out hLk4.out h3 HRc.out HEd.out hEl hl1 HEA.out HNO.out).mono ?_;rintro e w6 ⟨rfl,F,D,gg,v,M,hF1,HFA,HFar,HED,hv0,hvs,hvle,hgl,hFv,hN,hb6⟩;have hb6:=(zab (thn3 hb4.out hb6));have c2:=far0 HFar.out hv0 (hFv.out 0 (Nat.zero_le _));have lgl:=zaf c2;have hd0 : ¬ ((D : Int) < 0):=(by omega)))
    have hE100 : E.length <= 100000000:=by omega
    have hEL:=(zab (fun e he => by rw [hF1,HRc.out.lr.len];exact HEd.out.lt e he : ∀ e ∈ E,e.1 < F.length /\ e.2.1 < F.length))
    have z6:=hb6.out.size
    have hDl : D <= 262144:=by have:=hvle.out D (Nat.le_refl _);omega
    have HF1:= zab hF1
    have hF2 : F.length <= 1000000:=by omega
    have hv0' : ((0 : Nat) : Int) = ((v 0 : Nat) : Int):=by rw [hv0]
    clear c2 hF1 hre hsn hlo hio hb0 f0 hv0
    go_loopw [10,11] (fun vm vi wr => ∃ t : Nat,t <= D /\ vi = .int .i64 ((v t : Nat) : Int) /\ wr.ownsRow w6.heap.size 46 2 vm t (mvC ((List.range t).map M)) /\ Below w6.heap.size w6 wr) (fun _ vi _ => gg - (intOf vi).toNat)
    case atStart => exact ⟨0,Nat.zero_le _,by rw [<- hv0'];rfl,World.ownsRow_nil _ _ _ _,Below.refl _ _⟩
    case round =>
     obtain ⟨t,ht,rfl,hown,hb⟩:=hrel
     rename World => w7
     have z7:=hb.size
     have cF:=(HFar.out.keep hb) (v t) _ (hFv.out t ht)
     have lgl7:=zaf cF
     obtain ⟨hvg,hvt⟩:=hvle.out t ht
     have hx0 : (0 : Int) <= ((v t : Nat) : Int):=Int.natCast_nonneg _
     have hx1 : ((v t : Nat) : Int) < (l.length : Int):=by omega
     have HOWN:= zab hown
     have HB:= zab hb
     by_cases hlt : t < D
     ·obtain ⟨bb,p,hn1,hn2,hn3⟩:=hN.out t hlt
      have hbl:=(List.getElem?_eq_some_iff.1 hn2).1
      obtain ⟨be,hea',e0,e1,e2,e3⟩:=(HED.out.keep hb) bb _ hn2
      subst hea'
      have hs1:=hvs.out t hlt
      have hvg2:=(hvle.out (t + 1) (by omega)).1
      have hnear:=fun (W : World) (h : Below w7.heap.size w7 W) => zv8 E F (v t) (by have:=HF1.out;omega) hEL.out hE100 hF2 (some ⟨be,0,none⟩) gl cl ec W ((HED.out.keep hb).keep h) ((HFar.out.keep hb).keep h)
      rw [hn1,HF1.out] at hnear
      have hpos : (0 : Int) < (D : Int) - t:=by omega
      have hM1 : (List.range (t + 1)).map M = (List.range t).map M ++ [(((p / 3 : Nat) : Int),((p % 3 : Nat) : Int))]:=by rw [List.range_succ,List.map_append];show _ ++ [M t] = _;rw [hn3];rfl
      have HM1:= zab hM1
      simp only at e1 e2 e3
      generalize v t = kk at hnear cF hs1 hvg hvt hx0 hx1 ⊢
      have hb0' : ¬ ((bb : Int) < 0):=by omega
      have hbx0 := znn bb
      have hbx1 : (bb : Int) < (E.length : Int):=by omega
      have lbe:=zaf e1
      have lO : ∀ k,u10.ownBlock = some k -> w6.heap.size <= k /\ k < w7.heap.size:=fun k h => HOWN.out.lt k h
      have lbe6 : be < w6.heap.size:=by obtain ⟨b',hb',q0,_⟩:=HED.out bb _ hn2;cases hb';exact zaf q0
      have hne : some be ≠ u10.ownBlock:=fun e => by have:=(lO be e.symm).1;omega
      clear hn1 hn2 hn3 hM1 hown hb e0
      go_wp2_with (first
       | (go_at_call 39;refine (hnear _ (Below.refl _ _)).mono ?_;rintro e w8 ⟨rfl,hb8⟩;have e18:=zaa hb8 e1;have e28:=zaa hb8 e2;have e38:=zaa hb8 e3;have z8:=hb8.size)
       | (at_builtin;refine wpList_append_lies _ rfl _ _ _ rfl w6.heap.size 46 iM _ 2 16 Tryz.underlying27 hiM zM0 zM1 zM2 rfl (by omega) u10 t _ rfl ((zbc HOWN.out hb8).alloc _) ⟨w8.heap.size,0,none⟩ 1 1 [.int .i64 ((p / 3 : Nat) : Int),.int .i64 ((p % 3 : Nat) : Int)] rfl rfl (World.news_of_block (heap_alloc_new w8 _)) (by simp [Value.oneCell']) (by omega) (by unfold maxLen;omega) (by omega) (by simp;omega) (w8.heap.size + 1) (by simp) ?_;intro g2 cap2 w9 hown2 hgrow2 hat2 hlt2;have e19:=hgrow2.cell (zaw _ e18) hne))
      go_roundw
      case rel =>
       refine ⟨t + 1,by omega,rfl,by rw [HM1.out,zkl];exact hown2,?_⟩
       have zg:=hgrow2.size
       exact Below.grown ((HB.out.trans (hb8.mono z7)).alloc (by omega) _) hgrow2 (by simp;omega) (fun k hk => (lO k hk).1)
      case measure => simp [intOf];omega
     ·obtain rfl : D = t:=by omega
      have hz : ((D : Int) - D) = 0:=by omega
      rw [hz] at cF
      have hp : zij f b w.heap.size (.returned (.tuple #[u10,.int .i64 0])) w7:=⟨u10,_,0,rfl,by rw [List.length_map,List.length_range];exact zwv z6 HOWN.out,HPI.out _ HFA.out⟩
      have HP:= zab hp
      clear hp hown hb
      go_wp2_with fail
      go_ret2
      exact ⟨HP.out,thn3 hb6.out HB.out⟩
end
section
open Go.RowKit
theorem zlh (x y z : Int) (w : World) : Calls Tryz.prog 74 #[.agg #[.int .i64 x,.int .i64 y,.int .i64 z],.agg #[.int .i64 x,.int .i64 y,.int .i64 z]] w fun e W => e = .returned (.bool true) /\ Below w.heap.size w W:=by
 have h1 : (x == x) = true:=by simp
 have h2 : (y == y) = true:=by simp
 have h3 : (z == z) = true:=by simp
 go_enter Tryz.func74,Tryz.ntmps74
 go_wp2_with fail
 go_ret
 exact ⟨za9 (by simp),thn3 (bel1 _ _) (bel1 _ _)⟩
theorem yaaa {cs : List Value} {n : Nat} (h : cs.length = n * 3) : (cs ++ zd5)[n * 3]? = some (.int .i64 (-7)) /\ (cs ++ zd5)[n * 3 + 1]? = some (.int .i64 (-7)) /\ (cs ++ zd5)[n * 3 + 2]? = some (.int .i64 (-7)):=by
 refine ⟨?_,?_,?_⟩
 ·rw [List.getElem?_append_right (by omega),h,Nat.sub_self];rfl
 ·rw [List.getElem?_append_right (by omega),h,show n * 3 + 1 - n * 3 = 1 by omega];rfl
 ·rw [List.getElem?_append_right (by omega),h,show n * 3 + 2 - n * 3 = 2 by omega];rfl
theorem yaaw (ps : List PinD) (w : World) (g : Nat) (a : Option Addr) (l cap : Nat) (hrow : RowIs w g 94 (pinC ps ++ zd5)) (hp : PinSl w a l cap ps) :
  Calls Tryz.prog 73 #[.slice (some ⟨g,0,none⟩) ps.length (ps.length + 1),.slice a l cap] w fun e W => e = .returned (.bool true) /\ Below w.heap.size w W:=by
 obtain ⟨rfl,hl,hlc,hc9,hp⟩:=hp
 have hgl:=hrow.lt
 obtain ⟨t0,t1,t2⟩:=yaaa (zde ps)
 have l0:=hrow.cell t0
 have l1:=hrow.cell t1
 have l2:=hrow.cell t2
 have HRow:= zab hrow
 have HP:= zab hp
 have hnn : ((ps.length : Int) != (ps.length : Int)) = false:=by simp
 have hx9 : (0 : Int) <= (ps.length : Int):=Int.natCast_nonneg _
 clear hrow hp t0 t1 t2
 go_enter Tryz.func73,Tryz.ntmps73
 go_wp2_with fail
 go_loopw [6] (fun vi wr => ∃ i : Nat,i <= ps.length /\ vi = .int .i64 i /\ Below w.heap.size w wr) (fun i _ => ps.length - (intOf i).toNat)
 case atStart => exact ⟨0,Nat.zero_le _,rfl,Below.refl _ _⟩
 case round =>
  obtain ⟨i,hi,rfl,hb⟩:=hrel
  have hgl2 : g < wr.heap.size:=Nat.lt_of_lt_of_le hgl hb.size
  have hx0 := znn i
  by_cases hlt : i < ps.length
  ·obtain ⟨p,hpi⟩ : ∃ p,ps[i]? = some p:=⟨ps[i],List.getElem?_eq_getElem hlt⟩
   obtain ⟨t0,t1,t2⟩:=zps hpi zd5
   have c0:=zaa hb (HRow.out.cell t0)
   have c1:=zaa hb (HRow.out.cell t1)
   have c2:=zaa hb (HRow.out.cell t2)
   obtain ⟨b,o,rfl,d0,d1,d2⟩:=HP.out i p hpi
   have d0:=zaa hb d0
   have d1:=zaa hb d1
   have d2:=zaa hb d2
   have hbl:=zaf d0
   have hx1 : (i : Int) < (ps.length : Int):=by omega
   have hx2 : (i : Int) < (ps.length : Int) + 1:=by omega
   obtain ⟨x,y,z⟩:=p
   simp only at c0 c1 c2 d0 d1 d2
   have hcall:=fun W => zlh x y z W
   clear hpi t0 t1 t2
   go_wp2_with fail
   (first | go_region_held3 (fun w' => (w'.cell? ⟨g,i * 3,none⟩ = some (.int .i64 x) /\ w'.cell? ⟨g,i * 3 + 1,none⟩ = some (.int .i64 y) /\ w'.cell? ⟨g,i * 3 + 2,none⟩ = some (.int .i64 z)) /\ w'.cell? ⟨b,o + i * 3,none⟩ = some (.int .i64 x) /\ w'.cell? ⟨b,o + i * 3 + 1,none⟩ = some (.int .i64 y) /\ w'.cell? ⟨b,o + i * 3 + 2,none⟩ = some (.int .i64 z)) (go_keep) (first | (go_at_call 74;refine (hcall _).mono ?_;rintro e w3 ⟨rfl,hb3⟩;have e0:=zaa hb3 c0;have e1:=zaa hb3 c1;have e2:=zaa hb3 c2;have e3:=zaa hb3 d0;have e4:=zaa hb3 d1;have e5:=zaa hb3 d2)) | (go_at_call 74;refine (hcall _).mono ?_;rintro e w3 ⟨rfl,hb3⟩))
   go_wp2_with fail
   go_roundw
   case rel => first | exact ⟨i + 1,by omega,by go_num,thn3 hb.drew hb3⟩ | exact ⟨i + 1,by omega,by go_num,thn3 hb hb3⟩
   case measure => simp [intOf];omega
  ·have c0:=zaa hb l0
   have c1:=zaa hb l1
   have c2:=zaa hb l2
   have hcall:=fun W => zlh (-7) (-7) (-7) W
   go_wp2_with fail
   (first | go_region_held3 (fun w' => w'.cell? ⟨g,ps.length * 3,none⟩ = some (.int .i64 (-7)) /\ w'.cell? ⟨g,ps.length * 3 + 1,none⟩ = some (.int .i64 (-7)) /\ w'.cell? ⟨g,ps.length * 3 + 2,none⟩ = some (.int .i64 (-7))) (go_keep) (first | (go_at_call 74;refine (hcall _).mono ?_;rintro e w3 ⟨rfl,hb3⟩;have e0:=zaa hb3 c0;have e1:=zaa hb3 c1;have e2:=zaa hb3 c2)) | (go_at_call 74;refine (hcall _).mono ?_;rintro e w3 ⟨rfl,hb3⟩))
   go_wp2_with fail
   go_ret
   first | exact ⟨rfl,thn3 hb.drew hb3⟩ | exact ⟨rfl,thn3 hb hb3⟩
end
end Go.Proofs.YtkkekopomiehlaaGreat
