import Derived.Test.YtkkekopomiehlabCSk3
set_option linter.unusedVariables false
set_option linter.unusedSimpArgs false
set_option maxHeartbeats 40000000
set_option maxRecDepth 4000
namespace Go.Proofs.Ytkkekopomiehlab
section
open Go.RowKit
def quB (f : zac) (s t : Nat) : Bool:=claB f.ss f.ts false (plOf f (nwP f s)) (plOf f (nwP f t))
theorem znt {f : zac} (hts : ∀ k,0 <= f.ts.getD k 0) {s t : Nat} (hs : s < f.vs.length) (ht : t < f.vs.length) (h : quB f s t = true) : rndB f = false:=by
 unfold rndB
 refine zce hs (zce ht ?_)
 show metB f.ss f.ts false (plOf f (nwP f s)) (plOf f (nwP f t)) = false
 have:=zec (ss:=f.ss) hts (kept:=false) (ps:=plOf f (nwP f s)) (qs:=plOf f (nwP f t))
 unfold quB at h
 rw [h,Bool.true_or] at this
 cases hm : metB f.ss f.ts false (plOf f (nwP f s)) (plOf f (nwP f t)) with
 | false => rfl
 | true => rw [hm] at this;cases this
theorem zns {f : zac} (hts : ∀ k,0 <= f.ts.getD k 0) (h : ∀ s t,s < f.vs.length -> t < f.vs.length -> quB f s t = false) : rndB f = true:=by
 unfold rndB
 rw [List.all_eq_true]
 intro s hs
 rw [List.all_eq_true]
 intro t ht
 have hs:=List.mem_range.1 hs
 have ht:=List.mem_range.1 ht
 show metB f.ss f.ts false (plOf f (nwP f s)) (plOf f (nwP f t)) = true
 have:=zec (ss:=f.ss) hts (kept:=false) (ps:=plOf f (nwP f s)) (qs:=plOf f (nwP f t))
 have h1:=h s t hs ht
 have h2:=h t s ht hs
 unfold quB at h1 h2
 rw [h1,h2] at this
 cases hm : metB f.ss f.ts false (plOf f (nwP f s)) (plOf f (nwP f t)) with
 | true => rfl
 | false => rw [hm] at this;cases this
theorem znu (f : zac) (ho : Ord f) (hts : ∀ k,0 <= f.ts.getD k 0) (sa ta va fa : Option Addr) (sl sc tl tc vl vc fc : Nat) (w : World) (hf : FleetAt w sa sl sc ta tl tc va vl vc f) (hM : MatAt w fa (fitM f.ss)) :
  Calls Try.prog 11 #[.agg #[.slice sa sl sc,.slice ta tl tc,.slice va vl vc],.slice fa f.ss.length fc] w fun e W => e = .returned (.bool (!rndB f)) /\ Below w.heap.size w W:=by
 obtain ⟨R,hR⟩ : ∃ R,R = !rndB f:=⟨_,rfl⟩
 rw [<- hR]
 have f0:=box3 w (.slice sa sl sc) (.slice ta tl tc) (.slice va vl vc) 26
 have hb0:=bel1 w (.cells #[.slice sa sl sc,.slice ta tl tc,.slice va vl vc] 26)
 have hyes : ∀ s t,s < f.vs.length -> t < f.vs.length -> quB f s t = true -> R = true:=fun s t hs ht h => by rw [hR,znt hts hs ht h];rfl
 have hno : (∀ s t,s < f.vs.length -> t < f.vs.length -> quB f s t = false) -> R = false:=fun h => by rw [hR,zns hts h];rfl
 have c1:=fun (s a t b : Nat) (hs : s < f.vs.length) (ha : a < rlen f.vs s) (ht : t < f.vs.length) (hb : b < rlen f.vs t) (W : World) (h : Below w.heap.size w W) => zed f ho sa ta va fa sl sc tl tc vl vc fc W (hf.keep h) (hM.keep h) s a t b hs ha ht hb false
 have hvl:=hf.v1
 have h3:=ho.vs3
 obtain ⟨v1a,v1b⟩ : vl <= f.vs.length /\ f.vs.length <= vl:=by omega
 have HF:= zab hf
 have HO:= zab ho
 have HYES:= zab hyes
 have HNO:= zab hno
 have HC:= zab c1
 clear hf hM hR ho hts hvl hyes hno c1
 go_enter Try.func11,Try.ntmps11
 go_wp2_with fail
 go_loopw [5] (fun vs wr => ∃ s : Nat,s <= vl /\ vs = .int .i64 s /\ Hid (∀ s' t,s' < s -> t < f.vs.length -> quB f s' t = false) /\ Below (w.alloc (.cells #[.slice sa sl sc,.slice ta tl tc,.slice va vl vc] 26)).heap.size (w.alloc (.cells #[.slice sa sl sc,.slice ta tl tc,.slice va vl vc] 26)) wr) (fun s _ => vl - (intOf s).toNat)
 case atStart => exact ⟨0,Nat.zero_le _,rfl,(fun s' t h => by omega),Below.refl _ _⟩
 case round =>
  obtain ⟨s,hs,rfl,HA,hb5⟩:=hrel
  rename World => w5
  obtain ⟨q0,q1,q2⟩:=zah hb5 f0
  have l5:=zag q0
  have s0 := znn s
  by_cases hlt : s < vl
  ·have s1 : (s : Int) < (vl : Int):=by omega
   go_wp2_with fail
   go_loopw [6] (fun vt wr => ∃ t : Nat,t <= vl /\ vt = .int .i64 t /\ Hid (∀ t',t' < t -> quB f s t' = false) /\ Below (w.alloc (.cells #[.slice sa sl sc,.slice ta tl tc,.slice va vl vc] 26)).heap.size (w.alloc (.cells #[.slice sa sl sc,.slice ta tl tc,.slice va vl vc] 26)) wr) (fun t _ => vl - (intOf t).toNat)
   case atStart => exact ⟨0,Nat.zero_le _,rfl,(fun t' h => by omega),hb5⟩
   case round =>
    clear hb5 q0 q1 q2 l5
    obtain ⟨t,ht,rfl,HB,hb6⟩:=hrel
    rename World => w6
    obtain ⟨q0,q1,q2⟩:=zah hb6 f0
    have l6:=zag q0
    have hB6:=thn3 hb0 hb6
    have t0 := znn t
    by_cases hlt2 : t < vl
    ·have t1 : (t : Int) < (vl : Int):=by omega
     obtain ⟨v,hv⟩ : ∃ v,f.vs[s]? = some v:=⟨f.vs[s]'(by omega),List.getElem?_eq_getElem _⟩
     obtain ⟨v',hv'⟩ : ∃ v,f.vs[t]? = some v:=⟨f.vs[t]'(by omega),List.getElem?_eq_getElem _⟩
     obtain ⟨bv,ov,ra,rl,rc,rfl,_,cv,_,_,_⟩:=HF.out.v3 s v hv
     obtain ⟨bv',ov',ra',rl',rc',hbb,_,cv',_,_,_⟩:=HF.out.v3 t v' hv'
     cases hbb
     have cv:=zaa hB6 cv
     have cv':=zaa hB6 cv'
     rw [<- zdv hv] at cv
     rw [<- zdv hv'] at cv'
     obtain ⟨_,_,k0,k1⟩:=HO.out.rl (s:=s) (by omega)
     obtain ⟨_,_,k0',k1'⟩:=HO.out.rl (s:=t) (by omega)
     obtain ⟨nn,hnn⟩ : ∃ n : Nat,nowI f s = n:=⟨(nowI f s).toNat,by omega⟩
     obtain ⟨nt,hnt⟩ : ∃ n : Nat,nowI f t = n:=⟨(nowI f t).toNat,by omega⟩
     rw [hnn] at cv k1
     rw [hnt] at cv' k1'
     have d:=HC.out s nn t nt (by omega) (by omega) (by omega) (by omega)
     have hq : quB f s t = claB f.ss f.ts false (plOf f (s * 3 + nn)) (plOf f (t * 3 + nt)):=by unfold quB nwP;rw [hnn,hnt,Int.toNat_natCast,Int.toNat_natCast]
     rw [<- hq] at d
     have lc:=zag cv
     have hyes:=HYES.out s t (by omega) (by omega)
     have HB':=(zab (show quB f s t = false -> ∀ t',t' < t + 1 -> quB f s t' = false from fun h t' h' => by
      by_cases e : t' = t
      ·rw [e];exact h
      ·exact HB.out t' (by omega)))
     generalize quB f s t = z at d hyes HB'
     clear hq hnn hnt hv hv' HB
     cases z with
     | true =>
      have hR1:=hyes rfl
      clear HYES HNO hyes
      subst hR1
      go_wp2_with fail
      go_region_held3 (fun w' => (w'.cell? ⟨w.heap.size,0,none⟩ = some (.slice sa sl sc) /\ w'.cell? ⟨w.heap.size,1,none⟩ = some (.slice ta tl tc) /\ w'.cell? ⟨w.heap.size,2,none⟩ = some (.slice (some ⟨bv,ov,none⟩) vl vc)) /\ w'.cell? ⟨bv,ov + s * 4 + 1,none⟩ = some (.int .i64 (nn : Int)) /\ w'.cell? ⟨bv,ov + t * 4 + 1,none⟩ = some (.int .i64 (nt : Int))) (go_keep) (first | (go_at_call 26;refine (d _ hB6.drew).mono ?_;rintro e w7 ⟨rfl,hb7⟩;have q07:=zaa hb7 q0;have q17:=zaa hb7 q1;have q27:=zaa hb7 q2;have cv7:=zaa hb7 cv;have cw7:=zaa hb7 cv'))
      go_wp2_with fail
      go_ret
      exact ⟨rfl,thn3 hB6.drew hb7⟩
     | false =>
      clear hyes
      go_wp2_with fail
      go_region_held3 (fun w' => (w'.cell? ⟨w.heap.size,0,none⟩ = some (.slice sa sl sc) /\ w'.cell? ⟨w.heap.size,1,none⟩ = some (.slice ta tl tc) /\ w'.cell? ⟨w.heap.size,2,none⟩ = some (.slice (some ⟨bv,ov,none⟩) vl vc)) /\ w'.cell? ⟨bv,ov + s * 4 + 1,none⟩ = some (.int .i64 (nn : Int)) /\ w'.cell? ⟨bv,ov + t * 4 + 1,none⟩ = some (.int .i64 (nt : Int))) (go_keep) (first | (go_at_call 26;refine (d _ hB6.drew).mono ?_;rintro e w7 ⟨rfl,hb7⟩;have q07:=zaa hb7 q0;have q17:=zaa hb7 q1;have q27:=zaa hb7 q2;have cv7:=zaa hb7 cv;have cw7:=zaa hb7 cv'))
      go_wp2_with fail
      go_roundw
      case rel => exact ⟨t + 1,by omega,by go_num,HB'.out (by trivial),thn3 hb6.drew hb7⟩
      case measure => simp [intOf];omega
    ·have HA':=(zab (show ∀ s' t,s' < s + 1 -> t < f.vs.length -> quB f s' t = false from fun s' t' h1 h2 => by
      by_cases e : s' = s
      ·rw [e];exact HB.out t' (by omega)
      ·exact HA.out s' t' (by omega) h2))
     clear HA HB
     go_wp2_with fail
     go_roundw
     case rel => exact ⟨s + 1,by omega,by go_num,HA',hb6⟩
     case measure => simp [intOf];omega
  ·have hR1 : R = false:=HNO.out fun s' t h1 h2 => HA.out s' t (by omega) h2
   clear HNO HYES HA
   subst hR1
   go_wp2_with fail
   go_ret
   exact ⟨rfl,thn3 hb0 hb5⟩
end
section
open Go.RowKit
def jdN (F : Nat -> Bool) (L : Nat) : Nat -> Nat
 | 0 => L
 | j + 1 => if jdN F L j = L /\ F j = false then j else jdN F L j
theorem zix {F : Nat -> Bool} : ∀ n j,(∀ i,j <= i -> i < j + n -> F i = true) -> rN F n j = j + n
 | 0,j,_ => rfl
 | n + 1,j,h => by
  rw [rN,if_pos (h j (Nat.le_refl _) (by omega)),zix n (j + 1) (fun i h1 h2 => h i (by omega) (by omega))];omega
theorem ziy {F : Nat -> Bool} {b : Nat} (hb : F b = false) : ∀ n j,j <= b -> b < j + n -> (∀ i,j <= i -> i < b -> F i = true) -> rN F n j = b
 | 0,j,h1,h2,_ => by omega
 | n + 1,j,h1,h2,h => by
  by_cases e : j = b
  ·subst e;rw [rN,if_neg (by rw [hb];simp)]
  ·rw [rN,if_pos (h j (Nat.le_refl _) (by omega))]
   exact ziy hb n (j + 1) (by omega) (by omega) (fun i h3 h4 => h i (by omega) h4)
theorem zfo (F : Nat -> Bool) (L : Nat) : ∀ j,j <= L -> (jdN F L j = L /\ ∀ i,i < j -> F i = true) \/ ∃ b,b < j /\ jdN F L j = b /\ F b = false /\ ∀ i,i < b -> F i = true
 | 0,_ => .inl ⟨rfl,fun i hi => by omega⟩
 | j + 1,hj => by
  rw [jdN]
  rcases zfo F L j (by omega) with ⟨h1,h2⟩ | ⟨b,h1,h2,h3,h4⟩
  ·cases hF : F j with
   | false => rw [if_pos ⟨h1,rfl⟩];exact .inr ⟨j,by omega,rfl,hF,h2⟩
   | true =>
    rw [if_neg (fun h => by cases h.2)]
    refine .inl ⟨h1,fun i hi => ?_⟩
    by_cases e : i = j
    ·rw [e];exact hF
    ·exact h2 i (by omega)
  ·rw [if_neg (fun h => by omega)];exact .inr ⟨b,by omega,h2,h3,h4⟩
theorem zlu (F : Nat -> Bool) (L : Nat) : jdN F L L = rN F L 0:=by
 rcases zfo F L L (Nat.le_refl _) with ⟨h1,h2⟩ | ⟨b,h1,h2,h3,h4⟩
 ·rw [h1,zix L 0 (fun i _ h => h2 i (by omega))];omega
 ·rw [h2,ziy h3 L 0 (Nat.zero_le _) (by omega) (fun i _ h => h4 i h)]
theorem NowL.set {w : World} {B g cap n : Nat} {l : List Int} (h : NowL w B g cap n l) (x : Nat) (y : Int) : NowL (w.setCell ⟨g,x,none⟩ (.int .i64 y)) B g cap n (l.set x y):=by
 unfold NowL intC
 rw [List.map_set]
 exact (World.ownsRow.stored h _ _).1
theorem zb6 {w : World} {g k b o : Nat} {v u : Value} (hb : g ≠ b) (h : w.cell? ⟨b,o,none⟩ = some v) : (w.setCell ⟨g,k,none⟩ u).cell? ⟨b,o,none⟩ = some v:=by
 rw [World.cell?_setCell_other (h:=fun e => hb (by cases e;rfl))];exact h
theorem zn0 {f : zac} {ms : List (Int × Int)} {j : Nat} (h : (mvAt ms j).1 < 0 \/ (f.vs.length : Int) <= (mvAt ms j).1 \/ (mvAt ms j).2 < 0 \/ (rlen f.vs (mvAt ms j).1.toNat : Int) <= (mvAt ms j).2 \/ hasI (nowI f (mvAt ms j).1.toNat) ms (mvAt ms j).1 j = (mvAt ms j).2) : rmB f ms j = false:=by
 unfold rmB numB
 rw [Bool.eq_false_iff]
 intro hc
 simp only [Bool.and_eq_true,decide_eq_true_eq,Bool.not_eq_true',beq_eq_false_iff_ne,ne_eq] at hc
 obtain ⟨⟨⟨h1,h2⟩,h3,h4⟩,h5⟩:=hc
 rcases h with h | h | h | h | h
 iterate 4
  ·omega
 ·exact h5 h
theorem zn1 {f : zac} {ms : List (Int × Int)} {j x y : Nat} (hm : mvAt ms j = ((x : Int),(y : Int))) (hx : x < f.vs.length) (hy : y < rlen f.vs x) (hne : hasI (nowI f x) ms x j ≠ (y : Int)) : rmB f ms j = true:=by
 unfold rmB numB
 rw [hm]
 simp only [Bool.and_eq_true,decide_eq_true_eq,Bool.not_eq_true',beq_eq_false_iff_ne,ne_eq,Int.toNat_natCast]
 exact ⟨⟨⟨by omega,by omega⟩,by omega,by omega⟩,hne⟩
theorem zlv (f : zac) (ho : Ord f) (hts : ∀ k,0 <= f.ts.getD k 0) (sa ta va fa : Option Addr) (sl sc tl tc vl vc fc : Nat) (w : World) (hf : FleetAt w sa sl sc ta tl tc va vl vc f) (hM : MatAt w fa (fitM f.ss)) (ms : List (Int × Int)) (ma : Option Addr) (mc : Nat) (hml : ms.length <= 2000000) (hm : MvsAt w ma ms) :
  Calls Try.prog 10 #[.agg #[.slice sa sl sc,.slice ta tl tc,.slice va vl vc],.slice fa f.ss.length fc,.slice ma ms.length mc] w fun e W => e = .returned (.int .i64 (if (List.range ms.length).all (rmB f ms) = true then ((rN (rsB f ms) ms.length 0 : Nat) : Int) else -1)) /\ Below w.heap.size w W:=by
 obtain ⟨R,hR⟩ : ∃ R : Int,R = if (List.range ms.length).all (rmB f ms) = true then ((rN (rsB f ms) ms.length 0 : Nat) : Int) else -1:=⟨_,rfl⟩
 rw [<- hR]
 have f0:=box3 w (.slice sa sl sc) (.slice ta tl tc) (.slice va vl vc) 26
 have hb0:=bel1 w (.cells #[.slice sa sl sc,.slice ta tl tc,.slice va vl vc] 26)
 have c1:=fun (W : World) (h : Below w.heap.size w W) => zmb f ho sa ta va sl sc tl tc vl vc W (hf.keep h)
 have hno : ∀ j,j < ms.length -> rmB f ms j = false -> R = -1:=fun j hj h => by rw [hR,zce hj h,if_neg (by simp)]
 have hyes : (∀ i,i < ms.length -> rmB f ms i = true) -> R = ((jdN (rsB f ms) ms.length ms.length : Nat) : Int):=fun h => by
  rw [hR,if_pos (List.all_eq_true.2 fun i hi => h i (List.mem_range.1 hi)),zlu]
 have c2:=fun (W : World) (h : Below w.heap.size w W) => zlb f ho hts sa ta va fa sl sc tl tc vl vc fc W (hf.keep h) (hM.keep h) ms ma mc hml (hm.keep h)
 have hvl:=hf.v1
 have h3:=ho.vs3
 obtain ⟨v1a,v1b⟩ : vl <= f.vs.length /\ f.vs.length <= vl:=by omega
 have HF:= zab hf
 have HO:= zab ho
 have HM:= zab hm
 have HNO:= zab hno
 have HYES:= zab hyes
 have HC:= zab c2
 clear hf hM hR ho hts hvl hyes hno c2 hm
 go_enter Try.func10,Try.ntmps10
 go_wp2_with (go_at_call 24;refine (c1 _ hb0).mono ?_;rintro e w1 ⟨g,gc,rfl,hN,hb1⟩;have f1:=zah hb1 f0;have HN0:= zab hN;clear hN)
 have hB1:=thn3 hb0 hb1
 have HN1 : Hid (NowL w1 (w.heap.size + 1) g gc f.vs.length (cfgL f ms 0)):=by
  have:=HN0.out
  rw [show (w.alloc (.cells #[.slice sa sl sc,.slice ta tl tc,.slice va vl vc] 26)).heap.size = w.heap.size + 1 by simp] at this
  exact this
 clear HN0 f0 c1 hb0 hb1
 go_loopw [8,9] (fun vn vj wr => ∃ j : Nat,j <= ms.length /\ vj = .int .i64 j /\ vn = .int .i64 ((jdN (rsB f ms) ms.length j : Nat) : Int) /\ Hid (∀ i,i < j -> rmB f ms i = true) /\ Hid (NowL wr (w.heap.size + 1) g gc f.vs.length (cfgL f ms j)) /\ (wr.cell? ⟨w.heap.size,0,none⟩ = some (.slice sa sl sc) /\ wr.cell? ⟨w.heap.size,1,none⟩ = some (.slice ta tl tc) /\ wr.cell? ⟨w.heap.size,2,none⟩ = some (.slice va vl vc)) /\ Below w.heap.size w wr) (fun _ j _ => ms.length - (intOf j).toNat)
 case atStart => exact ⟨0,Nat.zero_le _,rfl,rfl,(fun i h => by omega),HN1,f1,hB1⟩
 case round =>
  clear HN1 f1 hB1
  obtain ⟨j,hj,rfl,rfl,HA,HN,⟨q0,q1,q2⟩,hB5⟩:=hrel
  rename World => w5
  have j0 := znn j
  have l5:=zag q0
  have lg:=HN.out.lt g rfl
  by_cases hlt : j < ms.length
  ·obtain ⟨m,hmj⟩ : ∃ m,ms[j]? = some m:=⟨ms[j],List.getElem?_eq_getElem hlt⟩
   have hmv : mvAt ms j = m:=by simp [mvAt,List.getD,hmj]
   obtain ⟨bm,om,rfl,cm0,cm1⟩:=HM.out j m hmj
   have cm0:=zaa hB5 cm0
   have cm1:=zaa hB5 cm1
   have lm:=zag cm0
   have j1 : (j : Int) < (ms.length : Int):=by omega
   have hno:=HNO.out j hlt
   have hrm:=zn0 (f:=f) (ms:=ms) (j:=j)
   rw [hmv] at hrm
   obtain ⟨mx,my⟩:=m
   simp only at cm0 cm1 hrm
   have hB6:=thn3 hB5 (bel1 w5 (.cells #[.int .i64 mx,.int .i64 my] 45))
   have f6:=new3 (.cells #[.int .i64 mx,.int .i64 my] 45) ⟨q0,q1,q2⟩
   have m6:=box2 w5 (.int .i64 mx) (.int .i64 my) 45
   clear hmj
   obtain ⟨f60,f61,f62⟩:=f6
   obtain ⟨m60,m61⟩:=m6
   have HN6:=(zab (HN.out.keep (bel1 w5 (.cells #[.int .i64 mx,.int .i64 my] 45))))
   have z6 : (w5.alloc (.cells #[.int .i64 mx,.int .i64 my] 45)).heap.size = w5.heap.size + 1:=by simp
   go_wp2_with fail
   generalize (w5.alloc (.cells #[.int .i64 mx,.int .i64 my] 45)) = w6 at f60 f61 f62 m60 m61 hB6 HN6 z6 ⊢
   have l60 : w.heap.size < w6.heap.size:=by omega
   have l61 : w5.heap.size < w6.heap.size:=by omega
   have l62 : g < w6.heap.size:=by omega
   clear q0 q1 q2 cm0 cm1 HN lm
   by_cases h1 : mx < 0
   ·have t1 : decide (mx < 0) = true:=by simpa using h1
    have hR1:=hno (hrm (.inl h1))
    clear hno hrm HNO HYES HC hmv
    subst hR1
    go_quiet (fail)
    go_wp2_with fail
    go_ret
    exact ⟨rfl,below_drewN hB6 _⟩
   have t1 : decide (mx < 0) = false:=by simpa using h1
   by_cases h2 : (f.vs.length : Int) <= mx
   ·have t2 : decide ((f.vs.length : Int) <= mx) = true:=by simpa using h2
    have hR1:=hno (hrm (.inr (.inl h2)))
    clear hno hrm HNO HYES HC hmv
    subst hR1
    go_quiet (fail)
    go_wp2_with fail
    go_ret
    exact ⟨rfl,below_drewN hB6 _⟩
   have t2 : decide ((f.vs.length : Int) <= mx) = false:=by simpa using h2
   obtain ⟨x,rfl⟩ : ∃ n : Nat,mx = n:=⟨mx.toNat,by omega⟩
   have hx : x < f.vs.length:=by omega
   rw [Int.toNat_natCast] at hrm
   by_cases h3' : my < 0
   ·have t3 : decide (my < 0) = true:=by simpa using h3'
    have hR1:=hno (hrm (.inr (.inr (.inl h3'))))
    clear hno hrm HNO HYES HC hmv
    subst hR1
    go_quiet (fail)
    go_wp2_with fail
    go_ret
    exact ⟨rfl,below_drewN hB6 _⟩
   have t3 : decide (my < 0) = false:=by simpa using h3'
   obtain ⟨v,hv⟩ : ∃ v,f.vs[x]? = some v:=⟨f.vs[x],List.getElem?_eq_getElem hx⟩
   obtain ⟨bv,ov,ra,rl,rc,rfl,_,_,_,cv,hrs⟩:=HF.out.v3 x v hv
   have hrl : rl = rlen f.vs x:=by rw [zf2 hv];exact hrs.1
   subst hrl
   have cv:=zaa hB6 cv
   have lv:=zag cv
   have x0 := znn x
   have x1 : (x : Int) < (vl : Int):=by omega
   have x2 : (x : Int) < (f.vs.length : Int):=by omega
   by_cases h4 : (rlen f.vs x : Int) <= my
   ·have t4 : decide ((rlen f.vs x : Int) <= my) = true:=by simpa using h4
    have hR1:=hno (hrm (.inr (.inr (.inr (.inl h4)))))
    clear hno hrm HNO HYES HC hmv
    subst hR1
    go_quiet (fail)
    go_wp2_with fail
    go_ret
    exact ⟨rfl,below_drewN hB6 _⟩
   have t4 : decide ((rlen f.vs x : Int) <= my) = false:=by simpa using h4
   have cn:=HN6.out.cell (zck (ms:=ms) (j:=j) hx)
   have lcn:=zag cn
   by_cases h5 : hasI (nowI f x) ms x j = my
   ·rw [h5] at cn
    have t5 : (my == my) = true:=by simp
    have t6 : (my != my) = false:=by simp
    have t7 : decide (my = my) = true:=by simp
    have hR1:=hno (hrm (.inr (.inr (.inr (.inr h5)))))
    clear hno hrm HNO HYES HC hmv
    subst hR1
    go_quiet (fail)
    go_wp2_with fail
    go_ret
    exact ⟨rfl,below_drewN hB6 _⟩
   obtain ⟨y,rfl⟩ : ∃ n : Nat,my = n:=⟨my.toNat,by omega⟩
   have hy : y < rlen f.vs x:=by omega
   have hrmj:=zn1 hmv hx hy h5
   have HA':=(zab (show ∀ i,i < j + 1 -> rmB f ms i = true from fun i hi => by
    by_cases e : i = j
    ·rw [e];exact hrmj
    ·exact HA.out i (by omega)))
   have hcs:=zko (f:=f) (ms:=ms) hx hmv
   have HCS:= zab hcs
   have t5 : ((y : Int) == hasI (nowI f x) ms x j) = false:=by simp;exact fun h => h5 h.symm
   have t6 : ((y : Int) != hasI (nowI f x) ms x j) = true:=by simp;exact fun h => h5 h.symm
   have t7 : decide ((y : Int) = hasI (nowI f x) ms x j) = false:=by simp;exact fun h => h5 h.symm
   have hdis:=fun (W : World) (h : Below w.heap.size w W) (hn : NowL W (w.heap.size + 1) g gc f.vs.length (cfgL f ms j)) => HC.out W h j hlt (fun i hi => HA'.out i (by omega)) (w.heap.size + 1) g gc hn
   generalize hasI (nowI f x) ms x j = hh at cn t5 t6 t7
   clear h5 hcs hrmj hno hrm hv hrs HNO HYES
   have hjs : jdN (rsB f ms) ms.length (j + 1) = if jdN (rsB f ms) ms.length j = ms.length /\ rsB f ms j = false then j else jdN (rsB f ms) ms.length j:=rfl
   have HJS:= zab hjs
   clear hjs hmv HC HA
   obtain ⟨lg1,lg2⟩:=lg
   rcases zfo (rsB f ms) ms.length j (by omega) with ⟨hn,_⟩ | ⟨b,hbj,hn,_,_⟩
   ·have HHN:= zab hn
    rw [hn]
    clear hn
    cases hz : rsB f ms j with
    | true =>
     have HJ1:=(zab (show ((jdN (rsB f ms) ms.length (j + 1) : Nat) : Int) = (ms.length : Int) by rw [HJS.out,if_neg (fun h => by rw [hz] at h;cases h.2),HHN.out]))
     rw [hz] at hdis
     clear hz HJS HHN
     go_quiet (fail)
     have hB7:=below_drewN hB6 nq
     have HN7:=(zab (HN6.out.keep (below_drewN (Below.refl _ _) nq)))
     have k7:=below_drewN (Below.refl w6.heap.size w6) nq
     generalize w6.drewN nq = w7 at hB7 HN7 k7 ⊢
     have a0:=zaa k7 f60
     have a1:=zaa k7 f61
     have a2:=zaa k7 f62
     have b0:=zaa k7 m60
     have b1:=zaa k7 m61
     clear f60 f61 f62 m60 m61 cn cv HN6 hB6
     go_wp2_with (go_at_call 25;refine (hdis _ hB7 HN7.out).mono ?_;rintro e w8 ⟨rfl,hb8⟩;have d0:=zaa hb8 a0;have d1:=zaa hb8 a1;have d2:=zaa hb8 a2;have e0:=zaa hb8 b0;have e1:=zaa hb8 b1;have HN8:=(zab (HN7.out.keep hb8));have c8:=HN8.out.cell (zck (ms:=ms) (j:=j) hx);have z8:=World.ownsRow.frozenAt HN8.out x;have l8:=zag d0;have l8':=zag e0;have l8'':=zag c8)
     go_roundw
     case rel => exact ⟨j + 1,by omega,by go_num,by rw [HJ1.out],HA',by show NowL _ _ _ _ _ _;rw [HCS.out];exact HN8.out.set x y,⟨zb6 (by omega) d0,zb6 (by omega) d1,zb6 (by omega) d2⟩,(thn3 hB7 hb8).setCell (by show w.heap.size <= g;omega) _⟩
     case measure => simp [intOf];omega
    | false =>
     have HJ1:=(zab (show ((jdN (rsB f ms) ms.length (j + 1) : Nat) : Int) = (j : Int) by rw [HJS.out,if_pos ⟨HHN.out,hz⟩]))
     rw [hz] at hdis
     clear hz HJS HHN
     go_quiet (fail)
     have hB7:=below_drewN hB6 nq
     have HN7:=(zab (HN6.out.keep (below_drewN (Below.refl _ _) nq)))
     have k7:=below_drewN (Below.refl w6.heap.size w6) nq
     generalize w6.drewN nq = w7 at hB7 HN7 k7 ⊢
     have a0:=zaa k7 f60
     have a1:=zaa k7 f61
     have a2:=zaa k7 f62
     have b0:=zaa k7 m60
     have b1:=zaa k7 m61
     clear f60 f61 f62 m60 m61 cn cv HN6 hB6
     go_wp2_with (go_at_call 25;refine (hdis _ hB7 HN7.out).mono ?_;rintro e w8 ⟨rfl,hb8⟩;have d0:=zaa hb8 a0;have d1:=zaa hb8 a1;have d2:=zaa hb8 a2;have e0:=zaa hb8 b0;have e1:=zaa hb8 b1;have HN8:=(zab (HN7.out.keep hb8));have c8:=HN8.out.cell (zck (ms:=ms) (j:=j) hx);have z8:=World.ownsRow.frozenAt HN8.out x;have l8:=zag d0;have l8':=zag e0;have l8'':=zag c8)
     go_roundw
     case rel => exact ⟨j + 1,by omega,by go_num,by rw [HJ1.out],HA',by show NowL _ _ _ _ _ _;rw [HCS.out];exact HN8.out.set x y,⟨zb6 (by omega) d0,zb6 (by omega) d1,zb6 (by omega) d2⟩,(thn3 hB7 hb8).setCell (by show w.heap.size <= g;omega) _⟩
     case measure => simp [intOf];omega
   ·have HJ1:=(zab (show ((jdN (rsB f ms) ms.length (j + 1) : Nat) : Int) = (b : Int) by rw [HJS.out,if_neg (fun h => by have:=h.1;omega),hn]))
    rw [hn]
    have u1 : ((b : Int) == (ms.length : Int)) = false:=by simp;omega
    have u2 : ((b : Int) != (ms.length : Int)) = true:=by simp;omega
    have u3 : decide ((b : Int) = (ms.length : Int)) = false:=by simp;omega
    clear hn HJS hdis
    go_quiet (fail)
    have hB7:=below_drewN hB6 nq
    have HN7:=(zab (HN6.out.keep (below_drewN (Below.refl _ _) nq)))
    have k7:=below_drewN (Below.refl w6.heap.size w6) nq
    generalize w6.drewN nq = w7 at hB7 HN7 k7 ⊢
    have a0:=zaa k7 f60
    have a1:=zaa k7 f61
    have a2:=zaa k7 f62
    have b0:=zaa k7 m60
    have b1:=zaa k7 m61
    clear f60 f61 f62 m60 m61 cn cv HN6 hB6
    have c8:=HN7.out.cell (zck (ms:=ms) (j:=j) hx)
    have z8:=World.ownsRow.frozenAt HN7.out x
    have l8:=zag a0
    have l8':=zag b0
    have l8'':=zag c8
    go_wp2_with fail
    go_roundw
    case rel => exact ⟨j + 1,by omega,by go_num,by rw [HJ1.out],HA',by show NowL _ _ _ _ _ _;rw [HCS.out];exact HN7.out.set x y,⟨zb6 (by omega) a0,zb6 (by omega) a1,zb6 (by omega) a2⟩,hB7.setCell (by show w.heap.size <= g;omega) _⟩
    case measure => simp [intOf];omega
  ·obtain rfl : j = ms.length:=by omega
   have hR1:=HYES.out HA.out
   clear HNO HYES HA HC
   generalize jdN (rsB f ms) ms.length ms.length = nn at hR1 ⊢
   subst hR1
   go_wp2_with fail
   go_ret
   exact ⟨rfl,hB5⟩
end
section
open Go.RowKit
theorem znf {ns nt : Nat} {p : PinD} (h : p.t < 0 \/ (nt : Int) <= p.t \/ p.w < -1 \/ (ns : Int) <= p.w \/ p.r < -1 \/ (ns : Int) <= p.r) : pinB ns nt p = false:=by
 unfold pinB numB
 rw [Bool.eq_false_iff]
 intro hc
 simp at hc
 omega
theorem zng {ns nt : Nat} {p : PinD} (h1 : 0 <= p.t) (h2 : p.t < nt) (h3 : -1 <= p.w) (h4 : p.w < ns) (h5 : -1 <= p.r) (h6 : p.r < ns) : pinB ns nt p = true:=by
 unfold pinB numB
 simp
 omega
theorem zo1 {ps : List PinD} {j : Nat} {q : PinD} {x : Int} (hq : ps[j]? = some q) : (ps.take (j + 1)).any (fun q => q.t == x) = ((ps.take j).any (fun q => q.t == x) || (q.t == x)):=by
 rw [List.take_add_one,hq,List.any_append]
 simp
theorem znj (ns nt : Nat) (ps : List PinD) (hns : ns <= 2000000) (hnt : nt <= 2000000) (w : World) (a : Option Addr) (cap : Nat) (hl : ps.length <= 2000000) (hp : PinsAt w a ps) :
  Calls Try.prog 46 #[.slice a ps.length cap,.int .i64 nt,.int .i64 ns] w fun e w' => e = .returned (.bool (zav ns nt ps)) /\ Below w.heap.size w w':=by
 obtain ⟨R,hR⟩ : ∃ R,R = zav ns nt ps:=⟨_,rfl⟩
 rw [<- hR]
 by_cases h4 : ps.length <= 4
 ·have HR : Hid (R = (List.range ps.length).all (pinK ns nt ps)):=by show _ = _;rw [hR];unfold zav;rw [decide_eq_true h4];rfl
  clear hR
  go_enter Try.func46,Try.ntmps46
  go_wp2_with fail
  go_loopw [7] (fun vi wr => ∃ i : Nat,i <= ps.length /\ vi = .int .i64 i /\ Hid ((List.range i).all (pinK ns nt ps) = true) /\ Below w.heap.size w wr) (fun i _ => ps.length - (intOf i).toNat)
  case atStart => exact ⟨0,Nat.zero_le _,rfl,(by show _ = _;rfl),Below.refl _ _⟩
  case round =>
   obtain ⟨i,hi,rfl,hn,hb⟩:=hrel
   rename World => w5
   have hx0 := znn i
   by_cases hlt : i < ps.length
   ·obtain ⟨p,hpi⟩ : ∃ p,ps[i]? = some p:=⟨ps[i],List.getElem?_eq_getElem hlt⟩
    obtain ⟨b,o,rfl,c0,c1,c2⟩:=hp i p hpi
    have c0:=zaa hb c0
    have c1:=zaa hb c1
    have c2:=zaa hb c2
    have hbl:=zag c0
    have hx1 : (i : Int) < (ps.length : Int):=by omega
    have hK : pinK ns nt ps i = (pinB ns nt p && !((ps.take i).any fun q => q.t == p.t)):=by unfold pinK;rw [hpi]
    have hno : pinK ns nt ps i = false -> R = false:=fun h => by rw [HR.out];exact zce hlt h
    have HYES:=(zab (fun (h : pinK ns nt ps i = true) => show (List.range (i + 1)).all (pinK ns nt ps) = true by rw [zdc,hn.out,h];rfl))
    have e0:=box3 w5 (.int .i64 p.t) (.int .i64 p.w) (.int .i64 p.r) 108
    have hB5:=thn3 hb (bel1 w5 (.cells #[.int .i64 p.t,.int .i64 p.w,.int .i64 p.r] 108))
    by_cases hbad : p.t < 0 \/ (nt : Int) <= p.t \/ p.w < -1 \/ (ns : Int) <= p.w \/ p.r < -1 \/ (ns : Int) <= p.r
    ·have hR1 : R = false:=hno (by rw [hK,znf hbad];rfl)
     clear hK hpi hn HR hp hno HYES
     subst hR1
     obtain ⟨x,y,z⟩:=p
     simp only at c0 c1 c2 hbad e0 hB5
     go_wp2_with fail
     all_goals first | (go_ret;exact ⟨rfl,hB5⟩) | (exfalso;omega)
    ·have hP : pinB ns nt p = true:=zng (by omega) (by omega) (by omega) (by omega) (by omega) (by omega)
     rw [hP,Bool.true_and] at hK
     obtain ⟨g1,g2,g3,g4,g5,g6⟩ : 0 <= p.t /\ p.t < (nt : Int) /\ -1 <= p.w /\ p.w < (ns : Int) /\ -1 <= p.r /\ p.r < (ns : Int):=by omega
     have HK:= zab hK
     have HNO:= zab hno
     have HP:= zab hp
     clear hK hn hno hP hbad hpi
     obtain ⟨x,y,z⟩:=p
     simp only at c0 c1 c2 e0 hB5 HK g1 g2 g3 g4 g5 g6
     go_wp2_with fail
     all_goals first | (exfalso;omega) | skip
     go_loopw [9] (fun vj wr => ∃ j : Nat,j <= i /\ vj = .int .i64 j /\ Hid ((ps.take j).any (fun q => q.t == x) = false) /\ Below (w5.alloc (.cells #[.int .i64 x,.int .i64 y,.int .i64 z] 108)).heap.size (w5.alloc (.cells #[.int .i64 x,.int .i64 y,.int .i64 z] 108)) wr) (fun j _ => i - (intOf j).toNat)
     case atStart => exact ⟨0,Nat.zero_le _,rfl,rfl,Below.refl _ _⟩
     case round =>
      obtain ⟨j,hj,rfl,hany,hb6⟩:=hrel
      rename World => w6
      obtain ⟨e60,e61,e62⟩:=zah hb6 e0
      have l6:=zag e60
      have hB6:=thn3 hB5 hb6
      have hy0 := znn j
      by_cases hlj : j < i
      ·obtain ⟨q,hq⟩ : ∃ q,ps[j]? = some q:=⟨ps[j]'(by omega),List.getElem?_eq_getElem _⟩
       obtain ⟨b',o',hbb,q0,_,_⟩:=HP.out j q hq
       cases hbb
       have q0:=zaa hB6 q0
       have lq:=zag q0
       have hy1 : (j : Int) < (ps.length : Int):=by omega
       have hy2 : (j : Int) < (i : Int):=by omega
       have hta:=zo1 (x:=x) hq
       by_cases hqx : q.t = x
       ·have hR1 : R = false:=HNO.out (by
         rw [HK.out]
         have : (ps.take i).any (fun q => q.t == x) = true:=List.any_eq_true.2 ⟨q,List.mem_of_getElem? (by rw [List.getElem?_take,if_pos hlj];exact hq),by simp [hqx]⟩
         rw [this];rfl)
        have d1 : (q.t == x) = true:=by simp [hqx]
        have d2 : (q.t != x) = false:=by simp [hqx]
        have d3 : decide (q.t = x) = true:=by simp [hqx]
        clear HR HNO HK HYES hqx hta hany hq
        subst hR1
        generalize q.t = qt at q0 d1 d2 d3
        go_wp2_with fail
        go_quiet (fail)
        go_wp2_with fail
        go_ret
        exact ⟨rfl,below_drewN hB6 _⟩
       ·have d1 : (q.t == x) = false:=by simp [hqx]
        have d2 : (q.t != x) = true:=by simp [hqx]
        have d3 : decide (q.t = x) = false:=by simp [hqx]
        rw [hany.out,d1] at hta
        have HTA:= zab hta
        clear hqx hta hany hq
        generalize q.t = qt at q0 d1 d2 d3
        go_wp2_with fail
        go_quiet (fail)
        go_wp2_with fail
        go_roundw
        case rel => exact ⟨j + 1,by omega,by go_num,HTA,below_drewN hb6 _⟩
        case measure => simp [intOf];omega
      ·obtain rfl : i = j:=by omega
       have HY:=(zab (HYES.out (by rw [HK.out,hany.out];rfl)))
       clear hany
       go_wp2_with fail
       go_roundw
       case rel => exact ⟨i + 1,by omega,by go_num,HY,hB6⟩
       case measure => simp [intOf];omega
   ·have hR1 : R = true:=by rw [HR.out,<- hn.out,show i = ps.length by omega]
    clear HR hn
    subst hR1
    go_wp2_with fail
    go_ret
    exact ⟨rfl,hb⟩
 ·have hR1 : R = false:=by rw [hR];unfold zav;rw [decide_eq_false h4];rfl
  clear hR
  subst hR1
  go_enter Try.func46,Try.ntmps46
  go_wp2_with fail
  go_ret
  exact ⟨rfl,Below.refl _ _⟩
end
end Go.Proofs.Ytkkekopomiehlab
