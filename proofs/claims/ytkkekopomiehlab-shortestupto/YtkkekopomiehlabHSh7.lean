import Derived.Test.YtkkekopomiehlabHSh5
set_option linter.unusedVariables false
set_option linter.unusedSimpArgs false
set_option maxHeartbeats 40000000
namespace Go.Proofs.Ytkkekopomiehlab
section
set_option maxRecDepth 4000
open Go.RowKit
theorem zk3 {f : zad} {ms : List (Int × Int)} {j x : Nat} {y : Int} (hx : x < f.vs.length) (hm : mvAt ms j = ((x : Int),y)) : cfgL f ms (j + 1) = (cfgL f ms j).set x y:=by
 refine List.ext_getElem? fun s => ?_
 by_cases hs : s < f.vs.length
 ·rw [zea hs,zhp,hm]
  by_cases he : x = s
  ·subst he
   rw [List.getElem?_set_self (by unfold cfgL;simpa using hs),if_pos rfl]
  ·rw [List.getElem?_set_ne he,zea hs,if_neg (by simp;omega)]
 ·rw [List.getElem?_eq_none (by unfold cfgL;simp;omega),List.getElem?_eq_none (by unfold cfgL;simp;omega)]
theorem zl2 {f : zad} {ms : List (Int × Int)} {j : Nat} (hj : j < ms.length) (h : (mvAt ms j).1 < 0 \/ (f.vs.length : Int) <= (mvAt ms j).1) : leB f ms = false:=by
 rw [Bool.eq_false_iff]
 intro hc
 unfold leB at hc
 rw [Bool.and_eq_true,List.all_eq_true] at hc
 have:=hc.1 ms[j] (List.getElem_mem _)
 rw [show mvAt ms j = ms[j] by simp [mvAt,List.getD,hj]] at h
 unfold numB at this
 simp at this
 omega
theorem zl3 {f : zad} {ms : List (Int × Int)} {s : Nat} (hs : s < f.vs.length) (h : hasI (nowI f s) ms s ms.length ≠ zbl f s) : leB f ms = false:=by
 rw [Bool.eq_false_iff]
 intro hc
 unfold leB at hc
 rw [Bool.and_eq_true,List.all_eq_true,List.all_eq_true] at hc
 exact h (by simpa using hc.2 s (List.mem_range.2 hs))
theorem zl4 {f : zad} {ms : List (Int × Int)} (h1 : ∀ i,i < ms.length -> 0 <= (mvAt ms i).1 /\ (mvAt ms i).1 < f.vs.length) (h2 : ∀ s,s < f.vs.length -> hasI (nowI f s) ms s ms.length = zbl f s) : leB f ms = true:=by
 unfold leB
 rw [Bool.and_eq_true,List.all_eq_true,List.all_eq_true]
 refine ⟨fun m hm => ?_,fun s hs => by simpa using h2 s (List.mem_range.1 hs)⟩
 obtain ⟨i,hi,rfl⟩:=List.mem_iff_getElem.1 hm
 have:=h1 i hi
 rw [show mvAt ms i = ms[i] by simp [mvAt,List.getD,hi]] at this
 unfold numB
 simp;omega
theorem zfp (f : zad) (ho : Ord f) (sa ta va : Option Addr) (sl sc tl tc vl vc : Nat) (w : World) (hf : FleetAt w sa sl sc ta tl tc va vl vc f) (ms : List (Int × Int)) (ma : Option Addr) (mc : Nat) (hml : ms.length <= 2000000) (hm : MvsAt w ma ms) :
  Calls Try.prog 13 #[.agg #[.slice sa sl sc,.slice ta tl tc,.slice va vl vc],.slice ma ms.length mc] w fun e W => e = .returned (.bool (leB f ms)) /\ Below w.heap.size w W:=by
 obtain ⟨R,hR⟩ : ∃ R : Bool,R = leB f ms:=⟨_,rfl⟩
 rw [<- hR]
 have f0:=box3 w (.slice sa sl sc) (.slice ta tl tc) (.slice va vl vc) 26
 have hb0:=bel1 w (.cells #[.slice sa sl sc,.slice ta tl tc,.slice va vl vc] 26)
 have c1:=fun (W : World) (h : Below w.heap.size w W) => zmi f ho sa ta va sl sc tl tc vl vc W (hf.keep h)
 have hno : ∀ j,j < ms.length -> ((mvAt ms j).1 < 0 \/ (f.vs.length : Int) <= (mvAt ms j).1) -> R = false:=fun j hj h => by rw [hR];exact zl2 hj h
 have hnos : ∀ s,s < f.vs.length -> hasI (nowI f s) ms s ms.length ≠ zbl f s -> R = false:=fun s hs h => by rw [hR];exact zl3 hs h
 have hyes : (∀ i,i < ms.length -> 0 <= (mvAt ms i).1 /\ (mvAt ms i).1 < f.vs.length) -> (∀ s,s < f.vs.length -> hasI (nowI f s) ms s ms.length = zbl f s) -> R = true:=fun h1 h2 => by rw [hR];exact zl4 h1 h2
 have hvl:=hf.v1
 have h3:=ho.vs3
 obtain ⟨v1a,v1b⟩ : vl <= f.vs.length /\ f.vs.length <= vl:=by omega
 have HF:= zab hf
 have HM:= zab hm
 have HNO:= zab hno
 have HNOS:= zab hnos
 have HYES:= zab hyes
 clear hf hR ho hvl hyes hno hnos hm
 go_enter Try.func13,Try.ntmps13
 go_wp2_with (go_at_call 24;refine (c1 _ hb0).mono ?_;rintro e w1 ⟨g,gc,rfl,hN,hb1⟩;have f1:=zag hb1 f0;have HN0:= zab hN;clear hN)
 have hB1:=thn3 hb0 hb1
 have HN1 : Hid (NowL w1 (w.heap.size + 1) g gc f.vs.length (cfgL f ms 0)):=by
  have:=HN0.out
  rw [show (w.alloc (.cells #[.slice sa sl sc,.slice ta tl tc,.slice va vl vc] 26)).heap.size = w.heap.size + 1 by simp] at this
  exact this
 clear HN0 f0 c1 hb0 hb1
 go_loopw [6] (fun vj wr => ∃ j : Nat,j <= ms.length /\ vj = .int .i64 j /\ Hid (∀ i,i < j -> 0 <= (mvAt ms i).1 /\ (mvAt ms i).1 < f.vs.length) /\ Hid (NowL wr (w.heap.size + 1) g gc f.vs.length (cfgL f ms j)) /\ (wr.cell? ⟨w.heap.size,0,none⟩ = some (.slice sa sl sc) /\ wr.cell? ⟨w.heap.size,1,none⟩ = some (.slice ta tl tc) /\ wr.cell? ⟨w.heap.size,2,none⟩ = some (.slice va vl vc)) /\ Below w.heap.size w wr) (fun j _ => ms.length - (intOf j).toNat)
 case atStart => exact ⟨0,Nat.zero_le _,rfl,(fun i h => by omega),HN1,f1,hB1⟩
 case round =>
  clear HN1 f1 hB1
  obtain ⟨j,hj,rfl,HA,HN,⟨q0,q1,q2⟩,hB5⟩:=hrel
  rename World => w5
  have j0 := znn j
  have l5:=zaj q0
  have lg:=HN.out.lt g rfl
  by_cases hlt : j < ms.length
  ·obtain ⟨m,hmj⟩ : ∃ m,ms[j]? = some m:=⟨ms[j],List.getElem?_eq_getElem hlt⟩
   have hmv : mvAt ms j = m:=by simp [mvAt,List.getD,hmj]
   obtain ⟨bm,om,rfl,cm0,cm1⟩:=HM.out j m hmj
   have cm0:=zaa hB5 cm0
   have cm1:=zaa hB5 cm1
   have lm:=zaj cm0
   have j1 : (j : Int) < (ms.length : Int):=by omega
   have hno:=HNO.out j hlt
   rw [hmv] at hno
   obtain ⟨mx,my⟩:=m
   simp only at cm0 cm1 hno
   have hB6:=thn3 hB5 (bel1 w5 (.cells #[.int .i64 mx,.int .i64 my] 45))
   have f6:=new3 (.cells #[.int .i64 mx,.int .i64 my] 45) ⟨q0,q1,q2⟩
   have m6:=box2 w5 (.int .i64 mx) (.int .i64 my) 45
   clear hmj
   obtain ⟨f60,f61,f62⟩:=f6
   obtain ⟨m60,m61⟩:=m6
   have HN6:=(zab (HN.out.keep (bel1 w5 (.cells #[.int .i64 mx,.int .i64 my] 45))))
   have z6 : (w5.alloc (.cells #[.int .i64 mx,.int .i64 my] 45)).heap.size = w5.heap.size + 1:=by simp
   have l60:=zaj f60
   have l61:=zaj m60
   have l62 : g < (w5.alloc (.cells #[.int .i64 mx,.int .i64 my] 45)).heap.size:=by have:=lg.2;omega
   by_cases h1 : mx < 0
   ·have t1 : decide (mx < 0) = true:=by simpa using h1
    have hR1:=hno (.inl h1)
    clear hno HNO HNOS HYES hmv
    subst hR1
    go_wp2_with fail
    go_ret
    exact ⟨rfl,hB6⟩
   have t1 : decide (mx < 0) = false:=by simpa using h1
   by_cases h2 : (f.vs.length : Int) <= mx
   ·have t2 : decide ((f.vs.length : Int) <= mx) = true:=by simpa using h2
    have hR1:=hno (.inr h2)
    clear hno HNO HNOS HYES hmv
    subst hR1
    go_wp2_with fail
    go_ret
    exact ⟨rfl,hB6⟩
   have t2 : decide ((f.vs.length : Int) <= mx) = false:=by simpa using h2
   obtain ⟨x,rfl⟩ : ∃ n : Nat,mx = n:=⟨mx.toNat,by omega⟩
   have hx : x < f.vs.length:=by omega
   have x0 := znn x
   have x2 : (x : Int) < (f.vs.length : Int):=by omega
   have HA':=(zab (show ∀ i,i < j + 1 -> 0 <= (mvAt ms i).1 /\ (mvAt ms i).1 < f.vs.length from fun i hi => by
    by_cases e : i = j
    ·rw [e,hmv];exact ⟨x0,x2⟩
    ·exact HA.out i (by omega)))
   have HCS:=(zab (zk3 (f:=f) (ms:=ms) hx hmv))
   clear hno HNO HNOS HYES hmv HA
   obtain ⟨lg1,lg2⟩:=lg
   have c8:=HN6.out.cell (zea (ms:=ms) (j:=j) hx)
   have z8:=World.ownsRow.frozenAt HN6.out x
   have l8:=zaj c8
   go_wp2_with fail
   go_roundw
   case rel => exact ⟨j + 1,by omega,by go_num,HA',by show NowL _ _ _ _ _ _;rw [HCS.out];exact (HN.out.set x my).keep (bel1 _ _),⟨zar _ (zff (by omega) q0),zar _ (zff (by omega) q1),zar _ (zff (by omega) q2)⟩,thn3 (hB5.setCell (by show w.heap.size <= g;omega) _) (bel1 _ _)⟩
   case measure => simp [intOf];omega
  ·obtain rfl : j = ms.length:=by omega
   have HYES1:=(zab (HYES.out HA.out))
   clear HNO HYES HA HM
   go_wp2_with fail
   go_loopw [8] (fun vs wr => ∃ s : Nat,s <= f.vs.length /\ vs = .int .i64 s /\ Hid (∀ i,i < s -> hasI (nowI f i) ms i ms.length = zbl f i) /\ Hid (NowL wr (w.heap.size + 1) g gc f.vs.length (cfgL f ms ms.length)) /\ (wr.cell? ⟨w.heap.size,0,none⟩ = some (.slice sa sl sc) /\ wr.cell? ⟨w.heap.size,1,none⟩ = some (.slice ta tl tc) /\ wr.cell? ⟨w.heap.size,2,none⟩ = some (.slice va vl vc)) /\ Below w.heap.size w wr) (fun s _ => f.vs.length - (intOf s).toNat)
   case atStart => exact ⟨0,Nat.zero_le _,rfl,(fun i h => by omega),HN,⟨q0,q1,q2⟩,hB5⟩
   case round =>
    clear HN q0 q1 q2 hB5 l5 lg
    obtain ⟨s,hs,rfl,HA,HN,⟨q0,q1,q2⟩,hB⟩:=hrel
    rename World => w9
    have s0 := znn s
    have l9:=zaj q0
    by_cases hlt : s < f.vs.length
    ·have s1 : (s : Int) < (f.vs.length : Int):=by omega
     have s2 : (s : Int) < (vl : Int):=by omega
     obtain ⟨v,hv⟩ : ∃ v,f.vs[s]? = some v:=⟨f.vs[s],List.getElem?_eq_getElem hlt⟩
     obtain ⟨bv,ov,ra,rl,rc,rfl,_,_,cv,_,_⟩:=HF.out.v3 s v hv
     have cv:=zaa hB cv
     have lv:=zaj cv
     rw [<- zgh hv] at cv
     have cn:=HN.out.cell (zea (ms:=ms) (j:=ms.length) hlt)
     have lcn:=zaj cn
     have hnos:=HNOS.out s hlt
     by_cases he : hasI (nowI f s) ms s ms.length = zbl f s
     ·have HA':=(zab (show ∀ i,i < s + 1 -> hasI (nowI f i) ms i ms.length = zbl f i from fun i hi => by
       by_cases e : i = s
       ·rw [e];exact he
       ·exact HA.out i (by omega)))
      rw [he] at cn
      generalize zbl f s = z at cn cv
      have t5 : (z == z) = true:=by simp
      have t6 : (z != z) = false:=by simp
      have t7 : decide (z = z) = true:=by simp
      clear he hnos hv HA HNOS HYES1
      go_wp2_with fail
      go_quiet (fail)
      go_wp2_with fail
      go_roundw
      case rel =>
       have k7:=below_drewN (Below.refl w9.heap.size w9) nq
       exact ⟨s + 1,by omega,by go_num,HA',HN.out.keep k7,⟨zaa k7 q0,zaa k7 q1,zaa k7 q2⟩,below_drewN hB _⟩
      case measure => simp [intOf];omega
     ·have hR1:=hnos he
      generalize zbl f s = z at cv he
      generalize hasI (nowI f s) ms s ms.length = y at cn he
      have t5 : (y == z) = false:=by simpa using he
      have t6 : (y != z) = true:=by simpa using he
      have t7 : decide (y = z) = false:=by simpa using he
      clear he hnos hv HA HNOS HYES1
      subst hR1
      go_wp2_with fail
      go_quiet (fail)
      go_wp2_with fail
      go_ret
      exact ⟨rfl,below_drewN hB _⟩
    ·obtain rfl : s = f.vs.length:=by omega
     have hR1:=HYES1.out HA.out
     clear HYES1 HNOS HA
     subst hR1
     go_wp2_with fail
     go_ret
     exact ⟨rfl,hB⟩
theorem zlg (xs ys : List (Int × Int)) (hxl : xs.length <= 2000000) (hyl : ys.length <= 2000000) (a b : Option Addr) (c d : Nat) (w : World) (h1 : MvsAt w a xs) (h2 : MvsAt w b ys) :
  Calls Try.prog 14 #[.slice a xs.length c,.slice b ys.length d] w fun e W => e = .returned (.bool (eaB xs ys)) /\ Below w.heap.size w W:=by
 unfold eaB
 by_cases hl : xs.length = ys.length
 case neg =>
  rw [if_neg hl]
  have t1 : ((xs.length : Int) == (ys.length : Int)) = false:=by simp;omega
  have t2 : ((xs.length : Int) != (ys.length : Int)) = true:=by simp;omega
  have t3 : decide ((xs.length : Int) = (ys.length : Int)) = false:=by simp;omega
  clear h1 h2
  go_enter Try.func14,Try.ntmps14
  go_wp2_with fail
  go_ret
  exact ⟨zav (by simp),Below.refl _ _⟩
 rw [if_pos hl,<- hl]
 obtain ⟨R,hR⟩ : ∃ R : Bool,R = erB xs ys:=⟨_,rfl⟩
 rw [<- hR]
 have H1:= zab h1
 have H2:= zab h2
 have HR0:=(zab (show erB (xs.drop 0) (ys.drop 0) = R by rw [List.drop_zero,List.drop_zero];exact hR.symm))
 have HL:= zab hl
 have e1 : ((xs.length : Int) == (xs.length : Int)) = true:=by simp
 have e2 : ((xs.length : Int) != (xs.length : Int)) = false:=by simp
 clear h1 h2 hR hl
 go_enter Try.func14,Try.ntmps14
 go_wp2_with fail
 go_loopw [5] (fun vi wr => ∃ i : Nat,i <= xs.length /\ vi = .int .i64 i /\ Hid (erB (xs.drop i) (ys.drop i) = R) /\ Below w.heap.size w wr) (fun i _ => xs.length - (intOf i).toNat)
 case atStart => exact ⟨0,Nat.zero_le _,rfl,HR0,Below.refl _ _⟩
 case round =>
  clear HR0
  obtain ⟨i,hi,rfl,HR,hb⟩:=hrel
  rename World => w5
  have hx0 := znn i
  by_cases hlt : i < xs.length
  ·have hlt2 : i < ys.length:=by have:=HL.out;omega
   obtain ⟨⟨x,y⟩,hm⟩ : ∃ m,xs[i]? = some m:=⟨xs[i],List.getElem?_eq_getElem hlt⟩
   obtain ⟨⟨z,u⟩,hn⟩ : ∃ m,ys[i]? = some m:=⟨ys[i],List.getElem?_eq_getElem hlt2⟩
   obtain ⟨b1,o1,rfl,p1,p2⟩:=H1.out.keep hb i _ hm
   obtain ⟨b2,o2,rfl,q1,q2⟩:=H2.out.keep hb i _ hn
   simp only at p1 p2 q1 q2
   have hx1 : (i : Int) < (xs.length : Int):=by omega
   have hd : erB (xs.drop i) (ys.drop i) = if x = z then (if y = u then erB (xs.drop (i + 1)) (ys.drop (i + 1)) else decide (y < u)) else decide (x < z):=by
    rw [List.drop_eq_getElem_cons hlt,List.drop_eq_getElem_cons hlt2,erB]
    rw [List.getElem?_eq_getElem hlt] at hm
    rw [List.getElem?_eq_getElem hlt2] at hn
    rw [Option.some.inj hm,Option.some.inj hn]
   have hr:=HR.out
   rw [hd] at hr
   clear hm hn hd HR
   by_cases hxz : x = z
   ·subst hxz
    rw [if_pos rfl] at hr
    have d1 : (x == x) = true:=by simp
    have d2 : (x != x) = false:=by simp
    by_cases hyu : y = u
    ·subst hyu
     rw [if_pos rfl] at hr
     have HR:= zab hr
     have d3 : (y == y) = true:=by simp
     have d4 : (y != y) = false:=by simp
     clear hr
     go_wp2_with fail
     go_quiet (fail)
     have hb6:=below_drewN hb nq
     have k6:=below_drewN (Below.refl w5.heap.size w5) nq
     generalize w5.drewN nq = w6 at hb6 k6 ⊢
     have p1:=zaa k6 p1
     have p2:=zaa k6 p2
     have q1:=zaa k6 q1
     have q2:=zaa k6 q2
     go_wp2_with fail
     go_quiet (fail)
     go_wp2_with fail
     go_roundw
     case rel => exact ⟨i + 1,by omega,by go_num,HR,below_drewN hb6 _⟩
     case measure => simp [intOf];omega
    ·rw [if_neg hyu] at hr
     have d3 : (y == u) = false:=by simpa using hyu
     have d4 : (y != u) = true:=by simpa using hyu
     have d5 : decide (y = u) = false:=by simpa using hyu
     clear hyu
     subst hr
     go_wp2_with fail
     go_quiet (fail)
     have hb6:=below_drewN hb nq
     have k6:=below_drewN (Below.refl w5.heap.size w5) nq
     generalize w5.drewN nq = w6 at hb6 k6 ⊢
     have p1:=zaa k6 p1
     have p2:=zaa k6 p2
     have q1:=zaa k6 q1
     have q2:=zaa k6 q2
     go_wp2_with fail
     go_quiet (fail)
     have hb7:=below_drewN hb6 nq
     have k7:=below_drewN (Below.refl w6.heap.size w6) nq
     generalize w6.drewN nq = w7 at hb7 k7 ⊢
     have p1:=zaa k7 p1
     have p2:=zaa k7 p2
     have q1:=zaa k7 q1
     have q2:=zaa k7 q2
     go_wp2_with fail
     go_quiet (fail)
     go_wp2_with fail
     go_ret
     exact ⟨rfl,below_drewN hb7 _⟩
   ·rw [if_neg hxz] at hr
    have d3 : (x == z) = false:=by simpa using hxz
    have d4 : (x != z) = true:=by simpa using hxz
    have d5 : decide (x = z) = false:=by simpa using hxz
    clear hxz
    subst hr
    go_wp2_with fail
    go_quiet (fail)
    have hb6:=below_drewN hb nq
    have k6:=below_drewN (Below.refl w5.heap.size w5) nq
    generalize w5.drewN nq = w6 at hb6 k6 ⊢
    have p1:=zaa k6 p1
    have p2:=zaa k6 p2
    have q1:=zaa k6 q1
    have q2:=zaa k6 q2
    go_wp2_with fail
    go_quiet (fail)
    go_wp2_with fail
    go_ret
    exact ⟨rfl,below_drewN hb6 _⟩
  ·obtain rfl : i = xs.length:=by omega
   have hr:=HR.out
   rw [List.drop_length] at hr
   have hr1 : R = false:=by rw [<- hr];rfl
   clear hr HR
   subst hr1
   go_wp2_with fail
   go_ret
   exact ⟨rfl,hb⟩
end
end Go.Proofs.Ytkkekopomiehlab
