import Derived.Test.YtkkekopomiehlaaGreatCSm6
set_option linter.unusedVariables false
set_option linter.unusedSimpArgs false
set_option maxHeartbeats 40000000
set_option maxRecDepth 4000
namespace Go.Proofs.YtkkekopomiehlaaGreat
section
open Go.RowKit
theorem zpd {pf : Nat -> Option ((Nat × Ty × ByteArray) × Nat)} {s : ByteArray} {N : Nat} (hp : ∀ i f k,pf i = some (f,k) -> i < k /\ k <= s.size /\ wt N f.2.1 + f.2.2.size + 84 <= 80 * (k - i)) :
  ∀ (m a : Nat) (acc fs : List (Nat × Ty × ByteArray)) (k : Nat),zaz pf s m a acc = some (fs,k) -> a < k /\ k <= s.size /\ (fs.map fun f => wt N f.2.1 + f.2.2.size + 4).sum <= (acc.map fun f => wt N f.2.1 + f.2.2.size + 4).sum + 80 * (k - a)
 | 0,a,acc,fs,k,h => by simp [zaz] at h
 | m + 1,a,acc,fs,k,h => by
  rw [zaz] at h
  split at h
  ·cases h
  ·rename_i f k' hf
   have h1:=hp _ _ _ hf
   split at h
   ·cases h
   ·split at h
    ·rename_i h125
     have:=zar (s:=s) (i:=k') (by omega)
     simp only [Option.some.injEq,Prod.mk.injEq] at h
     obtain ⟨rfl,rfl⟩:=h
     rw [List.map_append,List.sum_append]
     simp
     omega
    ·split at h
     ·have:=zpd hp m (k' + 1) (acc ++ [f]) fs k h
      rw [List.map_append,List.sum_append] at this
      simp at this ⊢
      omega
     ·cases h
theorem zw2 (st : Bool) (s : ByteArray) (N : Nat) : ∀ (n i : Nat) (ty : Ty) (k : Nat),zac st s n i = some (ty,k) -> wt N ty <= 80 * (k - i):=by
 intro n
 induction n generalizing N with
 | zero => intro i ty k h;simp [zac] at h
 | succ n IH =>
  intro i ty k h
  have hbd:=za8 st s _ _ _ _ h
  cases N with
  | zero => rw [wt];omega
  | succ N =>
  have hpl : ∀ q : Nat,wt (N + 1) (zbl q) <= 80 * (i + 1 - i):=fun q => by rw [wt];simp [zbl]
  rw [zac] at h
  split at h
  ·cases h;exact hpl _
  ·split at h
   ·cases h;exact hpl _
   ·split at h
    ·cases h;exact hpl _
    ·split at h
     ·simp only [zb8] at h
      split at h
      ·cases h
      ·split at h
       iterate 2
        ·split at h
         ·cases h;rw [wt];simp;omega
         ·cases h
     ·split at h
      ·unfold zbt at h
       split at h
       ·cases h
       ·rename_i t k' ht
        split at h
        ·cases h
         have:=IH N _ _ _ ht
         have:=za8 st s _ _ _ _ ht
         rw [wt];simp;omega
        ·cases h
      ·split at h
       ·unfold zbq at h
        split at h
        ·cases h
        ·rename_i t k' ht
         have:=IH N _ _ _ ht
         have:=za8 st s _ _ _ _ ht
         split at h
         ·cases h
         ·cases h;rw [wt];simp;omega
       ·split at h
        ·unfold pRec at h
         split at h
         ·cases h
         ·rename_i fs k' hfs
          cases h
          have:=zpd (N:=N) (fun i f k hf => by
           unfold zaj at hf
           split at hf
           ·split at hf
            ·cases hf
            ·rename_i t k' ht
             have h1:=IH N _ _ _ ht
             have h2:=za8 st s _ _ _ _ ht
             split at hf
             ·split at hf
              ·cases hf
              ·rename_i d m' he
               cases hf
               have h3:=zbo he
               have h4:=size_extract s (k' + 1) k (by omega) (by omega)
               refine ⟨by omega,by omega,?_⟩
               show wt N t + (s.extract (k' + 1) k).size + 84 <= _
               omega
             ·cases hf
              refine ⟨by omega,by omega,?_⟩
              show wt N t + 0 + 84 <= _
              omega
           ·cases hf) _ _ _ _ _ hfs
          rw [wt];simp at this ⊢;omega
        ·cases h
theorem zk0 {st : Bool} {s : ByteArray} {x : Ty} (h : pAll st s = some x) (hs : s.size <= 60) (N : Nat) : wt N x <= 20000:=by
 have:=zw2 st s N _ _ _ _ (zie h)
 omega
end
section
open Go.RowKit
theorem zsv {bs : List Bool} {x : Nat} {c : Bool} (h : bs[x]? = some c) : (bs.take (x + 1)).all id = ((bs.take x).all id && c):=by
 rw [List.take_add_one,h,List.all_append];simp
theorem zxx (s t : ByteArray) (ds : List ByteArray) (hl : ds.length <= 20000) (hb : ∀ w,Calls Tryz.prog 77 #[.string s,.string t] w fun e w' => e = .returned (.int .i64 0) /\ Below w.heap.size w w')
  (hsm : ∀ w,Calls Tryz.prog 78 #[.string s,.int .i64 0] w fun e w' => ∃ g cap,e = .returned (.slice (some ⟨g,0,none⟩) ds.length cap) /\ w'.ownsRow w.heap.size 9 1 (.slice (some ⟨g,0,none⟩) ds.length cap) ds.length (ds.map .string) /\ Below w.heap.size w w')
  (bs : List Bool) (hbl : bs.length = ds.length) (hsn : ∀ (x : Nat) (d : ByteArray) (c : Bool),ds[x]? = some d -> bs[x]? = some c -> ∀ w,Calls Tryz.prog 79 #[.string s,.int .i64 0,.string t,.int .i64 0,.string d,.int .i64 0] w fun e w' => ∃ z : ByteArray,e = .returned (.tuple #[.string z,.bool c]) /\ Below w.heap.size w w') (w : World) :
  Calls Tryz.prog 56 #[.string s,.string t] w fun e w' => e = .returned (.int .i64 (if bs.all id = true then 0 else 7)) /\ Below w.heap.size w w':=by
 obtain ⟨R,hR⟩ : ∃ R : Int,R = if bs.all id = true then 0 else 7:=⟨_,rfl⟩
 rw [<- hR]
 have HR : Hid (R = if bs.all id = true then 0 else 7):=hR
 clear hR
 go_enter Tryz.func56,Tryz.ntmps56
 go_wp2_with (first | (go_at_call 77;refine (hb _).mono ?_;rintro e w1 ⟨rfl,hb1⟩) | (go_at_call 78;refine (hsm _).mono ?_;rintro e w2 ⟨g,cap,rfl,hm,hb2⟩))
 go_loopw [7] (fun vn wr => ∃ x : Nat,x <= ds.length /\ vn = .int .i64 x /\ Hid ((bs.take x).all id = true) /\ Below w2.heap.size w2 wr) (fun x _ => ds.length - (intOf x).toNat)
 case atStart => exact ⟨0,Nat.zero_le _,rfl,(by show _ = _;rfl),Below.refl _ _⟩
 case round =>
  obtain ⟨x,hx,rfl,hall,hbr⟩:=hrel
  by_cases hlt : x < ds.length
  ·obtain ⟨d,hd⟩ : ∃ d,ds[x]? = some d:=⟨ds[x],List.getElem?_eq_getElem hlt⟩
   have hmem:=List.mem_of_getElem? hd
   have k0:=zaa hbr (zaq hm (i:=x) (v:=.string d) (by rw [List.getElem?_map,hd];rfl))
   have hg' : g < wr.heap.size:=zaf k0
   obtain ⟨c,hc⟩ : ∃ c,bs[x]? = some c:=⟨bs[x]'(by omega),List.getElem?_eq_getElem (by omega)⟩
   have hcall:=hsn x d c hd hc
   have hsnc : Hid ((bs.take (x + 1)).all id = c):=by show _ = _;rw [zsv hc,hall.out];rfl
   have hfalse : c = false -> bs.all id ≠ true:=fun h h2 => by rw [List.all_eq_true] at h2;have:=h2 c (List.mem_of_getElem? hc);rw [h] at this;cases this
   clear hd hmem hc hsn
   cases c with
   | true =>
    clear hfalse
    go_wp2_with (go_at_call 79;refine (hcall _).mono ?_;rintro e w3 ⟨z,rfl,hb3⟩)
    go_roundw
    case rel => exact ⟨x + 1,by omega,by go_num,hsnc,hbr.trans (hb3.mono hbr.size)⟩
    case measure => simp [intOf];omega
   | false =>
    have hR7 : R = 7:=by rw [HR.out,if_neg (hfalse rfl)]
    clear hfalse HR
    subst hR7
    go_wp2_with (go_at_call 79;refine (hcall _).mono ?_;rintro e w3 ⟨z,rfl,hb3⟩)
    go_ret
    exact ⟨rfl,thn2 (thn2 (thn2 hb1 hb2) hbr) hb3⟩
  ·have hxe : x = ds.length:=by omega
   have hR0 : R = 0:=by rw [HR.out,if_pos];have:=hall.out;rw [List.take_of_length_le (by omega)] at this;exact this
   clear HR hall
   subst hR0
   go_wp2_with fail
   go_ret
   exact ⟨rfl,thn2 (thn2 hb1 hb2) hbr⟩
theorem zmp {s : ByteArray} (h : ¬ 60 < s.size) {x : Ty} (hx : pAll true s = some x) : chk true s = 0:=by unfold chk;rw [if_neg h,hx];rfl
theorem zs7 {s t : ByteArray} (h : ¬ (60 < s.size \/ 60 < t.size)) {x r : Ty} (hx : pAll true s = some x) (hr : pAll true t = some r) : zjm s t = 0:=by
 have e1:=zmp (s:=s) (by omega) hx
 have e2:=zmp (s:=t) (by omega) hr
 unfold zjm;rw [e1,e2];rfl
theorem zzr {o : Option ByteArray} {e : Ending} (h : SRet o e) : ∃ z : ByteArray,e = .returned (.tuple #[.string z,.bool o.isSome]):=by
 cases o with
 | none => obtain ⟨t,rfl⟩:=h;exact ⟨t,rfl⟩
 | some t => exact ⟨t,h⟩
def fitB (s t : ByteArray) : Bool:=match pAll false s,pAll false t with
 | some x,some r => (unV (s.size + t.size) s.size x r).isNone
 | _,_ => false
theorem zxw (s t : ByteArray) (hs60 : s.size <= 60) (ht60 : t.size <= 60) (h1 : (pAll false s).isSome = true) (h2 : (pAll false t).isSome = true) (w : World) :
  Calls Tryz.prog 56 #[.string s,.string t] w fun e w' => e = .returned (.int .i64 (if fitB s t = true then 0 else 7)) /\ Below w.heap.size w w':=by
 have hs : s.size <= maxLen:=by unfold maxLen;omega
 have ht : t.size <= maxLen:=by unfold maxLen;omega
 have hbo:=fun w => zs6 s t hs ht w
 have h3 : ¬ (60 < s.size \/ 60 < t.size):=by omega
 obtain ⟨x,hx'⟩:=Option.isSome_iff_exists.1 h1
 obtain ⟨r,hr'⟩:=Option.isSome_iff_exists.1 h2
 have hfit : fitB s t = (unV (s.size + t.size) s.size x r).isNone:=by unfold fitB;rw [hx',hr']
 have hx : pAll true s = some x:=by rw [zif];exact hx'
 have hr : pAll true t = some r:=by rw [zif];exact hr'
 rw [hfit]
 rw [zs7 h3 hx hr] at hbo
 have hp:=zie hx
 have hq:=zie hr
 have hLx:=(zg6 _ _ _ _ hp).1
 have hLr:=(zg6 _ _ _ _ hq).1
 have hwx:=zk0 hx hs60 s.size
 have hln:=yaak s.size _ _ _ _ hp
 have hsm:=fun w => SmIs.of (zqm (s:=s) (by omega) s.size (by omega)) 0 x s.size w hp (by omega) hwx
 have hok:=ziu s.size x hLx
 have hdat:=ze3 s.size x hLx
 have hlen:=ze4 s.size x hLx
 have hseen : ∀ v,okV s.size x v -> (datV s.size v).size <= 64 -> ∀ w,Calls Tryz.prog 79 #[.string s,.int .i64 0,.string t,.int .i64 0,.string (datV s.size v),.int .i64 0] w fun e w' => SRet (rdT (s.size + t.size) x r v) e /\ Below w.heap.size w w':=fun v hv hd w =>
  zyo (s:=s) (t:=t) (d:=datV s.size v) (by omega) (by omega) hd (s.size + t.size) s.size t.size 0 0 0 x r s.size t.size v w (Nat.le_refl _) (by omega) (by omega) hp (by omega) hq (by omega) hv (At.self _) (zk0 hr ht60 _)
 have hL:=fun w => zxx s t ((smV s.size x).map (datV s.size)) (by rw [List.length_map];omega) hbo hsm ((smV s.size x).map fun v => (rdT (s.size + t.size) x r v).isSome) (by simp) (fun y d c hd hc w => by
  rw [List.getElem?_map] at hd hc
  obtain ⟨v,hv,rfl⟩:=Option.map_eq_some_iff.1 hd
  rw [hv] at hc
  cases hc
  have hm:=List.mem_of_getElem? hv
  refine (hseen v (hok v hm) (by have:=hdat v hm;omega) w).mono ?_
  rintro e w' ⟨he,hb⟩
  obtain ⟨z,hz⟩:=zzr he
  exact ⟨z,hz,hb⟩) w
 cases hu : unV (s.size + t.size) s.size x r with
 | none =>
  have hgood:=fun v hv => zha (s.size + t.size) (s.size + t.size) s.size t.size x r v (Nat.le_refl _) (Nat.le_refl _) hLx hLr hu hv
  rw [if_pos (by rw [List.all_map,List.all_eq_true];intro v hv;have:=hgood v (hok v hv);cases hz : rdT (s.size + t.size) x r v with
   | none => exact absurd hz this
   | some y => simp [hz])] at hL
  rw [if_pos (show (none : Option Val).isNone = true from rfl)]
  exact hL w
 | some u =>
  have hbad:=zg9 _ _ _ _ _ hLx hu
  have hmem:=zhb _ _ _ _ _ hLx hu
  rw [if_neg (by
   intro hall
   rw [List.all_map,List.all_eq_true] at hall
   have:=hall u hmem
   simp [hbad.2] at this)] at hL
  rw [if_neg (show ¬ (some u).isNone = true by simp)]
  exact hL w
end
section
open Go.RowKit
def RowT (S : Nat -> Prop) (w : World) (xs : List Value) (es : List (ByteArray × Ty)) : Prop :=
 xs.length = es.length * 5 /\ ∀ i e,es[i]? = some e -> ∃ p1 p2 p3 q1 q2 q3,RepB S e.1.size w p1 p2 p3 q1 q2 q3 e.2 /\ xs[i * 5]? = some (.int .i64 e.2.kind) /\
      xs[i * 5 + 1]? = some (.string e.2.letters) /\ xs[i * 5 + 2]? = some (.bool e.2.op) /\ xs[i * 5 + 3]? = some (.slice p1 p2 p3) /\ xs[i * 5 + 4]? = some (.slice q1 q2 q3)
theorem RowT.keep {S : Nat -> Prop} {w w' : World} {xs : List Value} {es : List (ByteArray × Ty)} (h : RowT S w xs es) (hb : ∀ b o v,S b -> w.cell? ⟨b,o,none⟩ = some v -> w'.cell? ⟨b,o,none⟩ = some v) : RowT S w' xs es :=
 ⟨h.1,fun i f hi => by obtain ⟨p1,p2,p3,q1,q2,q3,h1,h2⟩:=h.2 i f hi;exact ⟨p1,p2,p3,q1,q2,q3,h1.keep hb,h2⟩⟩
theorem RowT.imp {S S' : Nat -> Prop} {w : World} {xs : List Value} {es : List (ByteArray × Ty)} (h : RowT S w xs es) (hS : ∀ b,b < w.heap.size -> S b -> S' b) : RowT S' w xs es :=
 ⟨h.1,fun i f hi => by obtain ⟨p1,p2,p3,q1,q2,q3,h1,h2⟩:=h.2 i f hi;exact ⟨p1,p2,p3,q1,q2,q3,h1.imp hS,h2⟩⟩
theorem RowT.nil {S : Nat -> Prop} {w : World} : RowT S w [] []:=⟨rfl,fun i f hi => by simp at hi⟩
theorem RowT.snoc {S : Nat -> Prop} {w : World} {xs : List Value} {es : List (ByteArray × Ty)} (h : RowT S w xs es) {e : ByteArray × Ty} {p1 q1 : Option Addr} {p2 p3 q2 q3 : Nat} (hr : RepB S e.1.size w p1 p2 p3 q1 q2 q3 e.2) :
  RowT S w (xs ++ [.int .i64 e.2.kind,.string e.2.letters,.bool e.2.op,.slice p1 p2 p3,.slice q1 q2 q3]) (es ++ [e]):=by
 refine ⟨by simp [h.1];omega,fun i g hi => ?_⟩
 by_cases hl : i < es.length
 ·rw [List.getElem?_append_left hl] at hi
  obtain ⟨a1,a2,a3,b1,b2,b3,h1,h2⟩:=h.2 i g hi
  have hx:=h.1
  refine ⟨a1,a2,a3,b1,b2,b3,h1,?_⟩
  rw [List.getElem?_append_left (by omega),List.getElem?_append_left (by omega),List.getElem?_append_left (by omega),List.getElem?_append_left (by omega),List.getElem?_append_left (by omega)]
  exact h2
 ·rw [List.getElem?_append_right (by omega)] at hi
  obtain rfl : i = es.length:=by
   rcases Nat.eq_or_lt_of_le (Nat.le_of_not_lt hl) with h | h
   ·exact h.symm
   ·rw [List.getElem?_eq_none (by simp;omega)] at hi;cases hi
  simp at hi
  subst hi
  have hx:=h.1
  refine ⟨p1,p2,p3,q1,q2,q3,hr,?_⟩
  rw [<- hx]
  refine ⟨?_,?_,?_,?_,?_⟩ <;> (rw [List.getElem?_append_right (by omega)];simp)
theorem zx9 {H g g' : Nat} {wr w1 w2 w3 : World} {xs : List Value} {acc : List (ByteArray × Ty)} {f : ByteArray × Ty} {ai af : Option Addr} {li ci lf cf : Nat}
  (hrow : RowT (fun b => H <= b /\ b ≠ g) wr xs acc) (hr1 : RepB (fun b => wr.heap.size <= b) f.1.size w1 ai li ci af lf cf f.2) (hb1 : Below wr.heap.size wr w1) (hb2 : Below w1.heap.size w1 w2)
  (hgrow : w2.grownBy w3 (some g)) (hat : some g = some g' \/ g' = w2.heap.size) (hH : H <= wr.heap.size) (hg : g < wr.heap.size) :
  RowT (fun b => H <= b /\ b ≠ g') w3 (xs ++ [.int .i64 f.2.kind,.string f.2.letters,.bool f.2.op,.slice ai li ci,.slice af lf cf]) (acc ++ [f]):=by
 have z1:=hb1.size
 have z2:=hb2.size
 have hg' : g' = g \/ g' = w2.heap.size:=by
  rcases hat with h | h
  ·left;cases h;rfl
  ·exact .inr h
 have tr : ∀ b o v,b ≠ g -> w1.cell? ⟨b,o,none⟩ = some v -> w3.cell? ⟨b,o,none⟩ = some v:=fun b o v hne h =>
  hgrow.cell (zaa hb2 h) (fun e => hne (by cases e;rfl))
 have h1 : RowT (fun b => H <= b /\ b ≠ g /\ b ≠ g') wr xs acc:=hrow.imp (fun b hb h => ⟨h.1,h.2,by omega⟩)
 have h2 : RowT (fun b => H <= b /\ b ≠ g') w3 xs acc:=(h1.keep (fun b o v hS h => tr b o v hS.2.1 (zaa hb1 h))).imp (fun b _ h => ⟨h.1,h.2.2⟩)
 have h3 : RepB (fun b => H <= b /\ b ≠ g /\ b ≠ g') f.1.size w1 ai li ci af lf cf f.2:=hr1.imp (fun b hb h => by refine ⟨?_,?_,?_⟩ <;> omega)
 exact h2.snoc ((h3.keep (fun b o v hS h => tr b o v hS.2.1 h)).imp (fun b _ h => ⟨h.1,h.2.2⟩))
def TysAt (w : World) (g : Nat) (es : List (ByteArray × Ty)) : Prop:=∀ i e,es[i]? = some e -> ∃ p1 p2 p3 q1 q2 q3,Rep e.1.size w p1 p2 p3 q1 q2 q3 e.2 /\ w.cell? ⟨g,i * 5,none⟩ = some (.int .i64 e.2.kind) /\
      w.cell? ⟨g,i * 5 + 1,none⟩ = some (.string e.2.letters) /\ w.cell? ⟨g,i * 5 + 2,none⟩ = some (.bool e.2.op) /\ w.cell? ⟨g,i * 5 + 3,none⟩ = some (.slice p1 p2 p3) /\ w.cell? ⟨g,i * 5 + 4,none⟩ = some (.slice q1 q2 q3)
theorem yaal {S : Nat -> Prop} {base g cap : Nat} {w : World} {xs : List Value} {es : List (ByteArray × Ty)} (hown : w.ownsRow base 135 5 (.slice (some ⟨g,0,none⟩) es.length cap) es.length xs) (h : RowT S w xs es) : TysAt w g es:=fun i e hi => by
 obtain ⟨p1,p2,p3,q1,q2,q3,h1,k0,k1,k2,k3,k4⟩:=h.2 i e hi
 exact ⟨p1,p2,p3,q1,q2,q3,h1.rep,zaq hown k0,zaq hown k1,zaq hown k2,zaq hown k3,zaq hown k4⟩
theorem TysAt.keep {w w' : World} (hb : Below w.heap.size w w') {g : Nat} {es : List (ByteArray × Ty)} (h : TysAt w g es) : TysAt w' g es:=fun i e hi => by
 obtain ⟨p1,p2,p3,q1,q2,q3,h1,k0,k1,k2,k3,k4⟩:=h i e hi
 exact ⟨p1,p2,p3,q1,q2,q3,h1.keep hb,zaa hb k0,zaa hb k1,zaa hb k2,zaa hb k3,zaa hb k4⟩
def tabI (ss : List ByteArray) (i j : Nat) : Bool:=match ss[i]?,ss[j]? with
 | some s,some t => fitB s t
 | _,_ => false
def zbd (ss : List ByteArray) : List (List Bool):=(List.range 8).map fun i => (List.range 8).map (tabI ss i)
theorem zfv (ss : List ByteArray) : tabOk (zbd ss):=by
 refine ⟨by simp [zbd],fun r hr => ?_⟩
 obtain ⟨i,_,rfl⟩:=List.mem_map.1 hr
 simp
theorem zzy (ss : List ByteArray) {i j : Nat} (hi : i < 8) (hj : j < 8) : tabG (zbd ss) i j = tabI ss i j:=by
 simp [tabG,zbd,List.getD,List.getElem?_range hi,List.getElem?_range hj]
def zcp (ss : List ByteArray) (i j : Nat) : List Bool:=(List.range 64).map fun k => decide (k < i * 8 + j) && tabI ss (k / 8) (k % 8)
theorem zdr (ss : List ByteArray) (i j : Nat) : (zcp ss i j).length = 64:=by simp [zcp]
theorem zfw (ss : List ByteArray) (i j k : Nat) (hk : k < 64) : (zcp ss i j)[k]? = some (decide (k < i * 8 + j) && tabI ss (k / 8) (k % 8)):=by
 rw [zcp,List.getElem?_map,List.getElem?_range hk];rfl
theorem zlq {ss : List ByteArray} {i j : Nat} (h : ss.length <= i \/ ss.length <= j) : tabI ss i j = false:=by
 unfold tabI
 rcases h with h | h
 ·rw [List.getElem?_eq_none h]
 ·rw [List.getElem?_eq_none h];split <;> first | rfl | (rename_i h1;cases h1)
theorem zz2 (ss : List ByteArray) : zcp ss 0 0 = List.replicate 64 false:=by
 apply List.ext_getElem?
 intro k
 by_cases hk : k < 64
 ·rw [zfw _ _ _ _ hk,List.getElem?_replicate,if_pos hk];simp
 ·rw [List.getElem?_eq_none (by rw [zdr];omega),List.getElem?_eq_none (by simp;omega)]
theorem zz1 (ss : List ByteArray) {i j : Nat} (hi : i < 8) (hj : j < 8) : zcp ss i (j + 1) = (zcp ss i j).set (i * 8 + j) (tabI ss i j):=by
 apply List.ext_getElem?
 intro k
 by_cases hk : k < 64
 ·rw [zfw _ _ _ _ hk,List.getElem?_set]
  by_cases hki : i * 8 + j = k
  ·subst hki
   rw [if_pos rfl,if_pos (by rw [zdr];omega),show (i * 8 + j) / 8 = i by omega,show (i * 8 + j) % 8 = j by omega]
   simp [show i * 8 + j < i * 8 + (j + 1) by omega]
  ·rw [if_neg hki,zfw _ _ _ _ hk]
   by_cases h : k < i * 8 + j
   ·simp [h,show k < i * 8 + (j + 1) by omega]
   ·simp [h,show ¬ k < i * 8 + (j + 1) by omega]
 ·rw [List.getElem?_eq_none (by rw [zdr];omega),List.getElem?_eq_none (by rw [List.length_set,zdr];omega)]
theorem zz0 (ss : List ByteArray) {i : Nat} (hl : ss.length <= 8) : zcp ss i ss.length = zcp ss (i + 1) 0:=by
 apply List.ext_getElem?
 intro k
 by_cases hk : k < 64
 ·rw [zfw _ _ _ _ hk,zfw _ _ _ _ hk]
  by_cases h : k < i * 8 + ss.length
  ·rw [show decide (k < i * 8 + ss.length) = true by simp [h],show decide (k < (i + 1) * 8 + 0) = true by simp;omega]
  ·by_cases h2 : k < (i + 1) * 8
   ·rw [zlq (ss:=ss) (j:=k % 8) (.inr (by omega))];simp
   ·simp [h,h2]
 ·rw [List.getElem?_eq_none (by rw [zdr];omega),List.getElem?_eq_none (by rw [zdr];omega)]
theorem zzz (ss : List ByteArray) (hl : ss.length <= 8) : zcp ss ss.length 0 = (zbd ss).flatten:=by
 apply List.ext_getElem?
 intro k
 by_cases hk : k < 64
 ·have hr : (zbd ss)[k / 8]? = some ((List.range 8).map (tabI ss (k / 8))):=by rw [zbd,List.getElem?_map,List.getElem?_range (by omega)];rfl
  have hf:=zj7 (zbd ss) (k / 8) (k % 8) _ (zfv ss).2 hr (by omega)
  rw [show k / 8 * 8 + k % 8 = k by omega] at hf
  rw [hf,zfw _ _ _ _ hk,List.getElem?_map,List.getElem?_range (by omega)]
  by_cases h : k < ss.length * 8
  ·simp [h]
  ·rw [zlq (ss:=ss) (i:=k / 8) (.inl (by omega))];simp [zlq (ss:=ss) (i:=k / 8) (j:=k % 8) (.inl (by omega))]
 ·rw [List.getElem?_eq_none (by rw [zdr];omega),List.getElem?_eq_none (by rw [zj8 _ (zfv ss).2,(zfv ss).1];omega)]
end
end Go.Proofs.YtkkekopomiehlaaGreat
