import Derived.Test.YtkkekopomiehlabCSp7
set_option linter.unusedVariables false
set_option linter.unusedSimpArgs false
set_option maxHeartbeats 40000000
set_option maxRecDepth 4000
namespace Go.Proofs.Ytkkekopomiehlab
section
set_option maxRecDepth 100000
open Go.RowKit
def sch0 : ByteArray:=⟨#[123,97,58,105,125]⟩
def sch1 : ByteArray:=⟨#[123,97,58,108,44,98,58,115,61,34,45,34,125]⟩
def flt0 : zac:=⟨[sch0,sch1],[1],[⟨1,0,1,[[⟨0,0,-1⟩],[⟨0,1,-1⟩]]⟩,⟨1,0,1,[[⟨0,-1,0⟩],[⟨0,-1,1⟩]]⟩]⟩
theorem ord0 : ordB flt0 = true:=by decide +kernel
theorem saf0 : zbx flt0 [(1,1),(0,1)] = (2,0):=by decide +kernel
theorem snd0 : sndB (zaf flt0) = true:=by decide +kernel
theorem tou0 : (touS (zaf flt0) 6).length = 6:=by decide +kernel
theorem zpb : zaz (zaf flt0) = touS (zaf flt0) 6:=(zd1 (zdm _) tou0).symm
theorem t01 : ((touS (zaf flt0) 6)[1]?.map TS.fr) = some 0 /\ ((touS (zaf flt0) 6)[1]?.map TS.to) = some 4 /\ ((touS (zaf flt0) 6)[2]?.map TS.fr) = some 1 /\ ((touS (zaf flt0) 6)[2]?.map TS.to) = some 1:=by decide +kernel
theorem t02 : ((touS (zaf flt0) 6)[0]?.map fun t => decide (t.now.has = (zaf flt0).wnt)) = some false /\ ((touS (zaf flt0) 6)[1]?.map fun t => decide (t.now.has = (zaf flt0).wnt)) = some false /\ ((touS (zaf flt0) 6)[2]?.map fun t => decide (t.now.has = (zaf flt0).wnt)) = some true:=by decide +kernel
theorem znr (f0 : zac) (hf : f0 = flt0) : PlanIs f0 512 [(1,1),(0,1)] 0:=by
 subst hf
 unfold PlanIs
 rw [if_pos ord0,if_neg (by decide),if_pos snd0,zpb,if_neg (by rw [tou0];decide)]
 right
 refine ⟨?_,rfl⟩
 generalize hL : touS (zaf flt0) 6 = L
 have h1:=t01
 have h2:=t02
 rw [hL] at h1 h2
 obtain ⟨a1,a2,a3,a4⟩:=h1
 obtain ⟨b0,b1,b2⟩:=h2
 generalize (zaf flt0).wnt = wn at b0 b1 b2 ⊢
 clear hL
 obtain ⟨x1,hx1,f1⟩:=Option.map_eq_some_iff.1 a1
 obtain ⟨x2,hx2,f2⟩:=Option.map_eq_some_iff.1 a3
 rw [hx1] at a2 b1
 rw [hx2] at a4 b2
 simp only [Option.map_some,Option.some.injEq,decide_eq_true_eq,decide_eq_false_iff_not] at a2 a4 b1 b2
 refine ⟨2,2,fun t => t,x2,hx2,b2,fun i s hi hs => ?_,⟨rfl,rfl,fun t ht => ?_⟩,?_⟩
 ·have : i = 0 \/ i = 1:=by omega
  rcases this with rfl | rfl
  ·rw [hs] at b0
   simpa using b0
  ·rw [hx1] at hs;cases hs;exact b1
 ·have : t = 0 \/ t = 1:=by omega
  rcases this with rfl | rfl
  ·exact ⟨by omega,by omega,x1,hx1,f1⟩
  ·exact ⟨by omega,by omega,x2,hx2,f2⟩
 ·unfold wayL wayM
  simp [List.range_succ,hx1,hx2,mvOf,a2,a4]
theorem zn5 : ∃ f0 : zac,f0 = flt0 /\ zbx f0 [(1,1),(0,1)] = (2,0) /\ PlanIs f0 512 [(1,1),(0,1)] 0:=by
 obtain ⟨f0,hf⟩ : ∃ f0,f0 = flt0:=⟨_,rfl⟩
 refine ⟨f0,hf,?_,znr f0 hf⟩
 rw [hf];exact saf0
end
section
open Go.RowKit
end
section
open Go.RowKit
end
section
open Go.RowKit
def fitM (ss : List ByteArray) : List (List Bool):=ss.map fun s => ss.map fun t => fitB s t
theorem zhg {ss : List ByteArray} {i : Nat} {s : ByteArray} (h : ss[i]? = some s) : (fitM ss)[i]? = some (ss.map fun t => fitB s t):=by rw [fitM,List.getElem?_map,h];rfl
theorem zov {ss : List ByteArray} {i j : Nat} {s t : ByteArray} (hi : ss[i]? = some s) (hj : ss[j]? = some t) : tabI ss i j = fitB s t:=by unfold tabI;rw [hi,hj]
def rdB (ss : List ByteArray) (p q : PinD) : Bool:=(decide (p.w < 0) || decide (q.r < 0)) || tabI ss p.w.toNat q.r.toNat
end
section
open Go.RowKit
def meB (ss : List ByteArray) (ts : List Int) (kept : Bool) (p q : PinD) : Bool:=(p.t != q.t) || (kept && (ts.getD p.t.toNat 0 != 0)) || (rdB ss p q && rdB ss q p)
def metB (ss : List ByteArray) (ts : List Int) (kept : Bool) (ps qs : List PinD) : Bool:=ps.all fun p => qs.all (meB ss ts kept p)
def zci (ns nt : Nat) (ps : List PinD) : Prop:=∀ p ∈ ps,(0 <= p.t /\ p.t < nt) /\ p.w < ns /\ p.r < ns /\ -1 <= p.w /\ -1 <= p.r
end
section
open Go.RowKit
def clB (ss : List ByteArray) (ts : List Int) (kept : Bool) (p q : PinD) : Bool:=(p.t == q.t) && decide (0 <= p.w) && decide (0 <= q.r) && !(kept && decide (0 < ts.getD p.t.toNat 0)) && !(tabI ss p.w.toNat q.r.toNat)
def claB (ss : List ByteArray) (ts : List Int) (kept : Bool) (ps qs : List PinD) : Bool:=ps.any fun p => qs.any (clB ss ts kept p)
theorem zgn {α : Type} {l : List α} {i : Nat} {x : α} (F : α -> Bool) (h : l[i]? = some x) : (l.drop i).any F = (F x || (l.drop (i + 1)).any F):=by
 obtain ⟨hi,rfl⟩:=List.getElem?_eq_some_iff.1 h
 rw [List.drop_eq_getElem_cons hi];rfl
theorem zgz {α : Type} {l : List α} {i : Nat} (F : α -> Bool) (h : l.length <= i) : (l.drop i).any F = false:=by rw [List.drop_of_length_le h];rfl
theorem zkz (f : zac) (sa ta va fa : Option Addr) (sl sc tl tc vl vc fc : Nat) (w : World) (hf : FleetAt w sa sl sc ta tl tc va vl vc f) (hM : MatAt w fa (fitM f.ss)) (hss : f.ss.length <= 8) (s a t b : Nat) (v1 v2 : SvcD) (ps qs : List PinD) (kept : Bool)
  (hs : f.vs[s]? = some v1) (ha : v1.rels[a]? = some ps) (ht : f.vs[t]? = some v2) (hb' : v2.rels[b]? = some qs) (hps : zci f.ss.length f.ts.length ps) (hqs : zci f.ss.length f.ts.length qs) :
  Calls Try.prog 26 #[.agg #[.slice sa sl sc,.slice ta tl tc,.slice va vl vc],.slice fa f.ss.length fc,.int .i64 s,.int .i64 a,.int .i64 t,.int .i64 b,.bool kept] w fun e W => e = .returned (.bool (claB f.ss f.ts kept ps qs)) /\ Below w.heap.size w W:=by
 obtain ⟨R,hR⟩ : ∃ R,R = claB f.ss f.ts kept ps qs:=⟨_,rfl⟩
 rw [<- hR]
 have HR0 : Hid (R = (ps.drop 0).any fun p => qs.any (clB f.ss f.ts kept p)):=hR
 have f0:=box3 w (.slice sa sl sc) (.slice ta tl tc) (.slice va vl vc) 26
 have hb0:=bel1 w (.cells #[.slice sa sl sc,.slice ta tl tc,.slice va vl vc] 26)
 obtain ⟨b1,o1,ra1,rl1,rc1,rfl,_,_,_,d3,hr1⟩:=hf.v3 s v1 hs
 obtain ⟨b2,o2,ra2,rl2,rc2,hva2,_,_,_,g3,hr2⟩:=hf.v3 t v2 ht
 cases hva2
 obtain ⟨rfl,h12,_,_,hra1⟩:=hr1
 obtain ⟨rfl,h22,_,_,hra2⟩:=hr2
 obtain ⟨c1,p1,xa,xl,xc,rfl,d4,hx⟩:=hra1 a ps ha
 obtain ⟨c2,p2,ya,yl,yc,rfl,g4,hy⟩:=hra2 b qs hb'
 obtain ⟨rfl,hxl,_,_,hxp⟩:=hx
 obtain ⟨rfl,hyl,_,_,hyp⟩:=hy
 have hsl : s < f.vs.length:=(List.getElem?_eq_some_iff.1 hs).1
 have htl : t < f.vs.length:=(List.getElem?_eq_some_iff.1 ht).1
 have hal : a < v1.rels.length:=(List.getElem?_eq_some_iff.1 ha).1
 have hbl : b < v2.rels.length:=(List.getElem?_eq_some_iff.1 hb').1
 have hvl:=hf.v1
 have hv2:=hf.v2
 have s0 := znn s
 have s1 : (s : Int) < (vl : Int):=by omega
 have t0 := znn t
 have t1 : (t : Int) < (vl : Int):=by omega
 have a0 := znn a
 have a1 : (a : Int) < (v1.rels.length : Int):=by omega
 have n0 := znn b
 have n1 : (b : Int) < (v2.rels.length : Int):=by omega
 have d3:=zaa hb0 d3
 have g3:=zaa hb0 g3
 have d4:=zaa hb0 d4
 have g4:=zaa hb0 g4
 have HF:= zab hf
 have HM:= zab hM
 have HX:= zab hxp
 have HY:= zab hyp
 have HPS:= zab hps
 have HQS:= zab hqs
 clear hf hM hxp hyp hps hqs hR hs ht ha hb' hra1 hra2 hvl hsl htl hal hbl
 go_enter Try.func26,Try.ntmps26
 go_wp2_with fail
 go_loopw [17] (fun vi wr => ∃ i : Nat,i <= ps.length /\ vi = .int .i64 i /\ Hid (R = (ps.drop i).any fun p => qs.any (clB f.ss f.ts kept p)) /\ Below (w.alloc (.cells #[.slice sa sl sc,.slice ta tl tc,.slice (some ⟨b1,o1,none⟩) vl vc] 26)).heap.size (w.alloc (.cells #[.slice sa sl sc,.slice ta tl tc,.slice (some ⟨b1,o1,none⟩) vl vc] 26)) wr) (fun i _ => ps.length - (intOf i).toNat)
 case atStart => exact ⟨0,Nat.zero_le _,rfl,HR0,Below.refl _ _⟩
 case round =>
  clear HR0 d3 g3 d4 g4
  obtain ⟨i,hi,rfl,HR,hb5⟩:=hrel
  rename World => w5
  have hx0 := znn i
  by_cases hlt : i < ps.length
  ·obtain ⟨p,hpi⟩ : ∃ p,ps[i]? = some p:=⟨ps[i],List.getElem?_eq_getElem hlt⟩
   obtain ⟨bx,ox,rfl,cx0,cx1,cx2⟩:=HX.out i p hpi
   have hpo:=HPS.out p (List.mem_of_getElem? hpi)
   have hx1 : (i : Int) < (ps.length : Int):=by omega
   have HR1 : Hid (R = (((qs.drop 0).any (clB f.ss f.ts kept p)) || (ps.drop (i + 1)).any fun p => qs.any (clB f.ss f.ts kept p))):=by show _ = _;rw [HR.out,zgn _ hpi];rfl
   clear HR
   go_wp2_with fail
   go_loopw [18] (fun vj wr => ∃ j : Nat,j <= qs.length /\ vj = .int .i64 j /\ Hid (R = (((qs.drop j).any (clB f.ss f.ts kept p)) || (ps.drop (i + 1)).any fun p => qs.any (clB f.ss f.ts kept p))) /\ Below (w.alloc (.cells #[.slice sa sl sc,.slice ta tl tc,.slice (some ⟨b1,o1,none⟩) vl vc] 26)).heap.size (w.alloc (.cells #[.slice sa sl sc,.slice ta tl tc,.slice (some ⟨b1,o1,none⟩) vl vc] 26)) wr) (fun j _ => qs.length - (intOf j).toNat)
   case atStart => exact ⟨0,Nat.zero_le _,rfl,HR1,hb5⟩
   case round =>
    clear HR1 hb5
    obtain ⟨j,hj,rfl,HR,hb6⟩:=hrel
    rename World => w6
    obtain ⟨q0,q1,q2⟩:=zah hb6 f0
    have hB6:=thn3 hb0 hb6
    have hy0 := znn j
    by_cases hlj : j < qs.length
    ·obtain ⟨q,hqj⟩ : ∃ q,qs[j]? = some q:=⟨qs[j],List.getElem?_eq_getElem hlj⟩
     obtain ⟨by',oy,rfl,cy0,cy1,cy2⟩:=HY.out j q hqj
     have hqo:=HQS.out q (List.mem_of_getElem? hqj)
     have x0:=zaa hB6 cx0
     have x1:=zaa hB6 cx1
     have x2:=zaa hB6 cx2
     have y0:=zaa hB6 cy0
     have y1:=zaa hB6 cy1
     have y2:=zaa hB6 cy2
     have hy1 : (j : Int) < (qs.length : Int):=by omega
     have hst:=HR.out
     rw [zgn _ hqj] at hst
     clear HR hqj
     obtain ⟨pt,pw,pr⟩:=p
     obtain ⟨qt,qw,qr⟩:=q
     simp only at x0 x1 x2 y0 y1 y2 hpo hqo
     obtain ⟨⟨pt0,pt1⟩,pw1,pr1,pw0,pr0⟩:=hpo
     obtain ⟨⟨qt0,qt1⟩,qw1,qr1,qw0,qr0⟩:=hqo
     by_cases e1 : pt = qt
     ·subst e1
      have a1 : (pt == pt) = true:=by simp
      have a2 : (pt != pt) = false:=by simp
      have a3 : decide (pt = pt) = true:=by simp
      by_cases e2 : pw < 0
      ·have b2 : decide (pw < 0) = true:=by simpa using e2
       have HN:=(zab (show R = _ by rw [hst,show clB f.ss f.ts kept ⟨pt,pw,pr⟩ ⟨pt,qw,qr⟩ = false by unfold clB;simp;omega,Bool.false_or]))
       clear hst
       go_wp2_with fail
       go_quiet (fail)
       go_wp2_with fail
       go_roundw
       case rel => exact ⟨j + 1,by omega,by go_num,HN,by first | exact below_drewN (below_drewN (below_drewN hb6 _) _) _ | exact below_drewN (below_drewN hb6 _) _ | exact below_drewN hb6 _⟩
       case measure => simp [intOf];omega
      ·have b2 : decide (pw < 0) = false:=by simpa using e2
       by_cases e3 : qr < 0
       ·have b3 : decide (qr < 0) = true:=by simpa using e3
        have HN:=(zab (show R = _ by rw [hst,show clB f.ss f.ts kept ⟨pt,pw,pr⟩ ⟨pt,qw,qr⟩ = false by unfold clB;simp;omega,Bool.false_or]))
        clear hst
        go_wp2_with fail
        go_quiet (fail)
        go_wp2_with fail
        go_roundw
        case rel => exact ⟨j + 1,by omega,by go_num,HN,by first | exact below_drewN (below_drewN (below_drewN hb6 _) _) _ | exact below_drewN (below_drewN hb6 _) _ | exact below_drewN hb6 _⟩
        case measure => simp [intOf];omega
       ·have b3 : decide (qr < 0) = false:=by simpa using e3
        obtain ⟨n,rfl⟩ : ∃ n : Nat,pt = n:=⟨pt.toNat,by omega⟩
        obtain ⟨a',rfl⟩ : ∃ n : Nat,pw = n:=⟨pw.toNat,by omega⟩
        obtain ⟨c',rfl⟩ : ∃ n : Nat,qr = n:=⟨qr.toNat,by omega⟩
        obtain ⟨kp,hkp⟩ : ∃ x,f.ts[n]? = some x:=⟨f.ts[n]'(by omega),List.getElem?_eq_getElem _⟩
        obtain ⟨bt,ot,rfl,ck⟩:=HF.out.t3 n kp hkp
        have ck:=zaa hB6 ck
        have htl:=HF.out.t1
        have n0' := znn n
        have n1' : (n : Int) < (tl : Int):=by omega
        obtain ⟨sx,hsx⟩ : ∃ x,f.ss[a']? = some x:=⟨f.ss[a']'(by omega),List.getElem?_eq_getElem _⟩
        obtain ⟨sy,hsy⟩ : ∃ x,f.ss[c']? = some x:=⟨f.ss[c']'(by omega),List.getElem?_eq_getElem _⟩
        obtain ⟨bm,om,gm,cm,rfl,cr,hcr⟩:=(HM.out.keep hB6) a' _ (zhg hsx)
        have cc:=hcr c' (fitB sx sy) (by rw [List.getElem?_map,hsy];rfl)
        rw [List.length_map] at cr
        have a0' := znn a'
        have c0' := znn c'
        have hcl : clB f.ss f.ts kept ⟨n,a',pr⟩ ⟨n,qw,c'⟩ = (!(kept && decide (0 < kp)) && !(fitB sx sy)):=by
         unfold clB
         rw [<- zov hsx hsy]
         simp only [Int.toNat_natCast,List.getD,hkp,Option.getD_some]
         rw [show ((n : Int) == (n : Int)) = true by simp,decide_eq_true a0',decide_eq_true c0']
         simp
        rw [hcl] at hst
        have l1:=zag ck
        have l2:=zag cr
        have l3:=zag cc
        have l4:=zag x0
        have l5:=zag y0
        clear hcl hcr hkp hsx hsy htl cx0 cx1 cx2 cy0 cy1 cy2
        generalize fitB sx sy = tb at cc hst
        by_cases hk : kept = true /\ 0 < kp
        ·obtain ⟨rfl,hk⟩:=hk
         have m1 : decide (0 < kp) = true:=by simpa using hk
         have HN:=(zab (show R = _ by rw [hst,m1]))
         clear hst
         go_wp2_with fail
         go_quiet (fail)
         go_wp2_with fail
         go_quiet (fail)
         go_wp2_with fail
         go_roundw
         case rel => exact ⟨j + 1,by omega,by go_num,HN,by first | exact below_drewN (below_drewN (below_drewN hb6 _) _) _ | exact below_drewN (below_drewN hb6 _) _ | exact below_drewN hb6 _⟩
         case measure => simp [intOf];omega
        ·have hk2 : (kept && decide (0 < kp)) = false:=by cases kept <;> simp_all
         rw [hk2,Bool.not_false,Bool.true_and] at hst
         cases kept with
         | false =>
          clear hk hk2
          cases tb with
          | true =>
           have HN:=(zab (show R = _ by rw [hst,Bool.not_true,Bool.false_or]))
           clear hst
           go_wp2_with fail
           go_quiet (fail)
           go_wp2_with fail
           go_quiet (fail)
           go_wp2_with fail
           go_quiet (fail)
           go_wp2_with fail
           go_roundw
           case rel => exact ⟨j + 1,by omega,by go_num,HN,by first | exact below_drewN (below_drewN (below_drewN hb6 _) _) _ | exact below_drewN (below_drewN hb6 _) _ | exact below_drewN hb6 _⟩
           case measure => simp [intOf];omega
          | false =>
           have hR1 : R = true:=by rw [hst];rfl
           clear hst
           subst hR1
           go_wp2_with fail
           go_quiet (fail)
           go_wp2_with fail
           go_quiet (fail)
           go_wp2_with fail
           go_quiet (fail)
           go_wp2_with fail
           go_ret
           exact ⟨rfl,below_drewN (below_drewN (below_drewN (thn3 hb0 hb6) _) _) _⟩
         | true =>
          have m1 : decide (0 < kp) = false:=by simpa using hk2
          clear hk hk2
          cases tb with
          | true =>
           have HN:=(zab (show R = _ by rw [hst,Bool.not_true,Bool.false_or]))
           clear hst
           go_wp2_with fail
           go_quiet (fail)
           go_wp2_with fail
           go_quiet (fail)
           go_wp2_with fail
           go_quiet (fail)
           go_wp2_with fail
           go_roundw
           case rel => exact ⟨j + 1,by omega,by go_num,HN,by first | exact below_drewN (below_drewN (below_drewN hb6 _) _) _ | exact below_drewN (below_drewN hb6 _) _ | exact below_drewN hb6 _⟩
           case measure => simp [intOf];omega
          | false =>
           have hR1 : R = true:=by rw [hst];rfl
           clear hst
           subst hR1
           go_wp2_with fail
           go_quiet (fail)
           go_wp2_with fail
           go_quiet (fail)
           go_wp2_with fail
           go_quiet (fail)
           go_wp2_with fail
           go_ret
           exact ⟨rfl,below_drewN (below_drewN (below_drewN (thn3 hb0 hb6) _) _) _⟩
     ·have a1 : (pt == qt) = false:=by simpa using e1
      have a2 : (pt != qt) = true:=by simpa using e1
      have a3 : decide (pt = qt) = false:=by simpa using e1
      have HN:=(zab (show R = _ by rw [hst,show clB f.ss f.ts kept ⟨pt,pw,pr⟩ ⟨qt,qw,qr⟩ = false by unfold clB;rw [a1];rfl,Bool.false_or]))
      clear hst
      go_wp2_with fail
      go_quiet (fail)
      go_wp2_with fail
      go_roundw
      case rel => exact ⟨j + 1,by omega,by go_num,HN,by first | exact below_drewN (below_drewN (below_drewN hb6 _) _) _ | exact below_drewN (below_drewN hb6 _) _ | exact below_drewN hb6 _⟩
      case measure => simp [intOf];omega
    ·have HN:=(zab (show R = (ps.drop (i + 1)).any fun p => qs.any (clB f.ss f.ts kept p) by rw [HR.out,zgz _ (by omega),Bool.false_or]))
     clear HR
     go_wp2_with fail
     go_roundw
     case rel => exact ⟨i + 1,by omega,by go_num,HN,hb6⟩
     case measure => simp [intOf];omega
  ·have hR1 : R = false:=by rw [HR.out,zgz _ (by omega)]
   clear HR
   subst hR1
   go_wp2_with fail
   go_ret
   exact ⟨rfl,thn3 hb0 hb5⟩
end
section
open Go.RowKit
def rlen (vs : List SvcD) (s : Nat) : Nat:=match vs[s]? with | some v => v.rels.length | none => 0
end
end Go.Proofs.Ytkkekopomiehlab
