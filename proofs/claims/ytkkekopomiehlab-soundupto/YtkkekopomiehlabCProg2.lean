import Derived.Test.YtkkekopomiehlabCSo8
set_option linter.unusedVariables false
set_option linter.unusedSimpArgs false
set_option maxHeartbeats 40000000
set_option maxRecDepth 4000
namespace Go.Proofs.Ytkkekopomiehlab
section
open Go.RowKit
theorem zjz (s : ByteArray) (hm : s.size <= maxLen) (w : World) :
  Calls Try.prog 21 #[.string s] w fun e w' => e = .returned (.int .i64 (chk false s)) /\ Below w.heap.size w w':=by
 by_cases hs : 60 < s.size
 ·have hr' : Hid (chk false s = 1):=by show _ = _;unfold chk;rw [if_pos hs]
  have hcall:=fun w => zpk hs hm w
  clear hs hm
  go_enter Try.func21,Try.ntmps21
  go_wp2_with (go_at_call 45;refine (hcall _).mono ?_;rintro e w1 ⟨rfl,hb1⟩)
  go_ret
  exact ⟨zbw hr'.out.symm,Below.alloc' hb1 _⟩
 ·cases hx : pAll false s with
  | none =>
   have hr' : Hid (chk false s = 2):=by show _ = _;unfold chk;rw [if_neg hs,hx];rfl
   have hcall:=fun w => zd8 (zcr (s:=s) (by omega) w) hx
   clear hs hm hx
   go_enter Try.func21,Try.ntmps21
   go_wp2_with (go_at_call 45;refine (hcall _).mono ?_;rintro e w1 ⟨rfl,hb1⟩)
   go_ret
   exact ⟨zbw hr'.out.symm,Below.alloc' hb1 _⟩
  | some ty =>
   have hr' : Hid (chk false s = 0):=by show _ = _;unfold chk;rw [if_neg hs,hx];rfl
   have hcall:=fun w => zc9 (zcr (s:=s) (by omega) w) hx
   clear hs hm hx
   go_enter Try.func21,Try.ntmps21
   go_wp2_with (go_at_call 45;refine (hcall _).mono ?_;rintro e w1 ⟨ai,li,ci,af,lf,cf,rfl,hr1,hb1⟩)
   go_ret
   exact ⟨zbw hr'.out.symm,Below.alloc' hb1 _⟩
end
section
open Go.RowKit
theorem zos {ns nt : Nat} {v : SvcD} (h : v.size < 1 \/ 3 < v.size \/ 3 < (v.rels.length : Int) \/ v.now < 0 \/ (v.rels.length : Int) <= v.now \/ v.want < 0 \/ (v.rels.length : Int) <= v.want) : svcB ns nt v = false:=by
 unfold svcB numB
 rw [Bool.eq_false_iff]
 intro hc
 simp only [Bool.and_eq_true,decide_eq_true_eq] at hc
 omega
theorem zot {ns nt : Nat} {v : SvcD} (h : ¬ (v.size < 1 \/ 3 < v.size \/ 3 < (v.rels.length : Int) \/ v.now < 0 \/ (v.rels.length : Int) <= v.now \/ v.want < 0 \/ (v.rels.length : Int) <= v.want)) : svcB ns nt v = v.rels.all (zav ns nt):=by
 unfold svcB numB
 rw [decide_eq_true (by omega),decide_eq_true (by omega),decide_eq_true (by omega),decide_eq_true (by omega),decide_eq_true (by omega),decide_eq_true (by omega),decide_eq_true (by omega),decide_eq_true (by omega)]
 rfl
theorem zl3 (ns nt : Nat) (v : SvcD) (sa ta va : Option Addr) (sc tc vl vc : Nat) (hns : ns <= 2000000) (hnt : nt <= 2000000) (w : World) (ra : Option Addr) (rl rc : Nat) (hp : RelSl PinSl w ra rl rc v.rels) :
  Calls Try.prog 22 #[.agg #[.slice sa ns sc,.slice ta nt tc,.slice va vl vc],.agg #[.int .i64 v.size,.int .i64 v.now,.int .i64 v.want,.slice ra rl rc]] w fun e w' => e = .returned (.bool (svcB ns nt v)) /\ Below w.heap.size w w':=by
 obtain ⟨R,hR⟩ : ∃ R,R = svcB ns nt v:=⟨_,rfl⟩
 rw [<- hR]
 obtain ⟨sz,nw,wn,rels⟩:=v
 simp only at hp ⊢
 obtain ⟨rfl,hl,hlc,hc9,hp⟩:=hp
 have e0:=new3 (.cells #[.int .i64 sz,.int .i64 nw,.int .i64 wn,.slice ra rels.length rc] 60) (box3 w (.slice sa ns sc) (.slice ta nt tc) (.slice va vl vc) 26)
 have hbx : Below w.heap.size w ((w.alloc (.cells #[.slice sa ns sc,.slice ta nt tc,.slice va vl vc] 26)).alloc (.cells #[.int .i64 sz,.int .i64 nw,.int .i64 wn,.slice ra rels.length rc] 60)):=thn3 (bel1 _ _) (bel1 _ _)
 have s0 : RowIs ((w.alloc (.cells #[.slice sa ns sc,.slice ta nt tc,.slice va vl vc] 26)).alloc (.cells #[.int .i64 sz,.int .i64 nw,.int .i64 wn,.slice ra rels.length rc] 60)) (w.heap.size + 1) 60 [.int .i64 sz,.int .i64 nw,.int .i64 wn,.slice ra rels.length rc]:=by
  have:=heap_alloc_new (w.alloc (.cells #[.slice sa ns sc,.slice ta nt tc,.slice va vl vc] 26)) (.cells #[.int .i64 sz,.int .i64 nw,.int .i64 wn,.slice ra rels.length rc] 60)
  rw [show (w.alloc (.cells #[.slice sa ns sc,.slice ta nt tc,.slice va vl vc] 26)).heap.size = w.heap.size + 1 by simp] at this
  exact this
 by_cases hbad : sz < 1 \/ 3 < sz \/ 3 < (rels.length : Int) \/ nw < 0 \/ (rels.length : Int) <= nw \/ wn < 0 \/ (rels.length : Int) <= wn
 ·have hR1 : R = false:=by rw [hR];exact zos hbad
  clear hR hp
  subst hR1
  go_enter Try.func22,Try.ntmps22
  go_wp2_with fail
  all_goals first | (go_ret;exact ⟨rfl,hbx⟩) | (exfalso;omega)
 ·have HR:=(zab (show R = rels.all (zav ns nt) by rw [hR];exact zot hbad))
  have HP:= zab hp
  obtain ⟨g1,g2,g3,g4,g5,g6,g7⟩ : 1 <= sz /\ sz <= 3 /\ (rels.length : Int) <= 3 /\ 0 <= nw /\ nw < (rels.length : Int) /\ 0 <= wn /\ wn < (rels.length : Int):=by omega
  clear hR hp hbad
  go_enter Try.func22,Try.ntmps22
  go_wp2_with fail
  all_goals first | (exfalso;omega) | skip
  go_loopw [6] (fun vi wr => ∃ i : Nat,i <= rels.length /\ vi = .int .i64 i /\ Hid ((rels.take i).all (zav ns nt) = true) /\ Below ((w.alloc (.cells #[.slice sa ns sc,.slice ta nt tc,.slice va vl vc] 26)).alloc (.cells #[.int .i64 sz,.int .i64 nw,.int .i64 wn,.slice ra rels.length rc] 60)).heap.size ((w.alloc (.cells #[.slice sa ns sc,.slice ta nt tc,.slice va vl vc] 26)).alloc (.cells #[.int .i64 sz,.int .i64 nw,.int .i64 wn,.slice ra rels.length rc] 60)) wr) (fun i _ => rels.length - (intOf i).toNat)
  case atStart => exact ⟨0,Nat.zero_le _,rfl,rfl,Below.refl _ _⟩
  case round =>
   obtain ⟨i,hi,rfl,hall,hb5⟩:=hrel
   rename World => w5
   obtain ⟨f0,f1,f2⟩:=zah hb5 e0
   have l5:=zag f0
   have s3:=(s0.keep hb5).cell (j:=3) rfl
   have l6:=zag s3
   have hB5:=thn3 hbx hb5
   have hx0 := znn i
   by_cases hlt : i < rels.length
   ·obtain ⟨ps,hps⟩ : ∃ ps,rels[i]? = some ps:=⟨rels[i],List.getElem?_eq_getElem hlt⟩
    obtain ⟨b,o,pa,pl,pc,rfl,c0,hq1,hq2,_,_,hq3⟩:=HP.out i ps hps
    subst hq1
    have c0:=zaa hB5 c0
    have lc:=zag c0
    have hx1 : (i : Int) < (rels.length : Int):=by omega
    have hpin:=fun (W : World) (h : Below w5.heap.size w5 W) => znj ns nt ps hns hnt W pa pc hq2 ((hq3.keep hB5).keep h)
    have hat:=zcf (zav ns nt) hps
    have hno : zav ns nt ps = false -> R = false:=fun h => by rw [HR.out];exact zcd hps h
    rw [hall.out,Bool.true_and] at hat
    have HAT:= zab hat
    generalize zav ns nt ps = x at hpin hno HAT
    clear hall hat hps hq3
    cases x with
    | false =>
     have hR1:=hno rfl
     clear HR hno
     subst hR1
     go_wp2_with fail
     go_region_held3 (fun w' => w'.cell? ⟨w.heap.size + 1,3,none⟩ = some (.slice (some ⟨b,o,none⟩) rels.length rc) /\ w'.cell? ⟨b,o + i,none⟩ = some (.slice pa ps.length pc) /\ w'.cell? ⟨w.heap.size,1,none⟩ = some (.slice ta nt tc) /\ w'.cell? ⟨w.heap.size,0,none⟩ = some (.slice sa ns sc)) (go_keep) (first | (go_at_call 46;refine (hpin _ (Below.refl _ _).drew).mono ?_;rintro e w6 ⟨rfl,hb6⟩;have k1:=zaa hb6 s3;have k2:=zaa hb6 c0;have k3:=zaa hb6 f1;have k4:=zaa hb6 f0))
     go_wp2_with fail
     go_ret
     exact ⟨rfl,thn3 hB5.drew hb6⟩
    | true =>
     clear hno
     go_wp2_with fail
     go_region_held3 (fun w' => w'.cell? ⟨w.heap.size + 1,3,none⟩ = some (.slice (some ⟨b,o,none⟩) rels.length rc) /\ w'.cell? ⟨b,o + i,none⟩ = some (.slice pa ps.length pc) /\ w'.cell? ⟨w.heap.size,1,none⟩ = some (.slice ta nt tc) /\ w'.cell? ⟨w.heap.size,0,none⟩ = some (.slice sa ns sc)) (go_keep) (first | (go_at_call 46;refine (hpin _ (Below.refl _ _).drew).mono ?_;rintro e w6 ⟨rfl,hb6⟩;have k1:=zaa hb6 s3;have k2:=zaa hb6 c0;have k3:=zaa hb6 f1;have k4:=zaa hb6 f0))
     go_wp2_with fail
     go_roundw
     case rel => exact ⟨i + 1,by omega,by go_num,HAT,thn3 hb5.drew hb6⟩
     case measure => simp [intOf];omega
   ·have hR1 : R = true:=by rw [HR.out,<- hall.out,List.take_of_length_le (by omega)]
    clear HR hall
    subst hR1
    go_wp2_with fail
    go_ret
    exact ⟨rfl,hB5⟩
theorem zku {s : ByteArray} (h : schB s = true) : chk false s = 0:=by
 unfold schB at h
 rw [Bool.and_eq_true] at h
 have:=of_decide_eq_true h.1
 unfold chk;rw [if_neg (by omega),if_pos h.2]
theorem zkt {s : ByteArray} (h : schB s = false) : chk false s ≠ 0:=by
 unfold schB at h
 unfold chk
 by_cases h1 : 60 < s.size
 ·rw [if_pos h1];decide
 ·rw [decide_eq_true (by omega),Bool.true_and] at h
  rw [if_neg h1,if_neg (by rw [h];simp)];decide
theorem zmq {f : zac} (h : 8 < f.ss.length \/ 4 < f.ts.length \/ f.vs.length < 1 \/ 3 < f.vs.length) : ordB f = false:=by
 unfold ordB zbj zbo zcb
 rw [Bool.eq_false_iff]
 intro hc
 simp only [Bool.and_eq_true,decide_eq_true_eq] at hc
 omega
theorem zmr {f : zac} (h : ¬ (8 < f.ss.length \/ 4 < f.ts.length \/ f.vs.length < 1 \/ 3 < f.vs.length)) : ordB f = (f.ss.all schB && (f.ts.all topB && f.vs.all (svcB f.ss.length f.ts.length))):=by
 unfold ordB zbj zbo zcb
 rw [decide_eq_true (by omega),decide_eq_true (by omega),decide_eq_true (by omega),decide_eq_true (by omega)]
 simp only [Bool.true_and,Bool.and_assoc]
theorem zob (f : zac) (sa ta va : Option Addr) (sl sc tl tc vl vc : Nat) (w : World) (hf : FleetAt w sa sl sc ta tl tc va vl vc f) :
  Calls Try.prog 8 #[.agg #[.slice sa sl sc,.slice ta tl tc,.slice va vl vc]] w fun e W => e = .returned (.bool (ordB f)) /\ Below w.heap.size w W:=by
 obtain ⟨R,hR⟩ : ∃ R,R = ordB f:=⟨_,rfl⟩
 rw [<- hR]
 have f0:=box3 w (.slice sa sl sc) (.slice ta tl tc) (.slice va vl vc) 26
 have hb0:=bel1 w (.cells #[.slice sa sl sc,.slice ta tl tc,.slice va vl vc] 26)
 have k1:=hf.s1
 have k2:=hf.t1
 have k3:=hf.v1
 subst k1 k2 k3
 have l1:=hf.s2
 have l2:=hf.t2
 have l3:=hf.v2
 have HF:= zab hf
 clear hf
 by_cases hbad : 8 < f.ss.length \/ 4 < f.ts.length \/ f.vs.length < 1 \/ 3 < f.vs.length
 ·have hR1 : R = false:=by rw [hR];exact zmq hbad
  have hbad' : 8 < (f.ss.length : Int) \/ 4 < (f.ts.length : Int) \/ (f.vs.length : Int) < 1 \/ 3 < (f.vs.length : Int):=by omega
  clear hR
  subst hR1
  obtain ⟨f00,f01,f02⟩:=f0
  go_enter Try.func8,Try.ntmps8
  go_wp2_with fail
  all_goals first | (go_ret;exact ⟨rfl,hb0⟩) | (exfalso;omega)
 ·have HR:=(zab (show R = (f.ss.all schB && (f.ts.all topB && f.vs.all (svcB f.ss.length f.ts.length))) by rw [hR];exact zmr hbad))
  obtain ⟨g1,g2,g3,g4⟩ : (f.ss.length : Int) <= 8 /\ (f.ts.length : Int) <= 4 /\ 1 <= (f.vs.length : Int) /\ (f.vs.length : Int) <= 3:=by omega
  clear hR hbad
  obtain ⟨f00,f01,f02⟩:=f0
  go_enter Try.func8,Try.ntmps8
  go_wp2_with fail
  all_goals first | (exfalso;omega) | skip
  have f0:=zdg f00 (zdg f01 f02)
  go_loopw [3] (fun vi wr => ∃ i : Nat,i <= f.ss.length /\ vi = .int .i64 i /\ Hid ((f.ss.take i).all schB = true) /\ Below (w.alloc (.cells #[.slice sa f.ss.length sc,.slice ta f.ts.length tc,.slice va f.vs.length vc] 26)).heap.size (w.alloc (.cells #[.slice sa f.ss.length sc,.slice ta f.ts.length tc,.slice va f.vs.length vc] 26)) wr) (fun i _ => f.ss.length - (intOf i).toNat)
  case atStart => exact ⟨0,Nat.zero_le _,rfl,rfl,Below.refl _ _⟩
  case round =>
   obtain ⟨i,hi,rfl,hall,hb5⟩:=hrel
   rename World => w5
   obtain ⟨q0,q1,q2⟩:=zah hb5 f0
   have l5:=zag q0
   have hB5:=thn3 hb0 hb5
   have hx0 := znn i
   by_cases hlt : i < f.ss.length
   ·obtain ⟨s,hs⟩ : ∃ s,f.ss[i]? = some s:=⟨f.ss[i],List.getElem?_eq_getElem hlt⟩
    obtain ⟨b,o,rfl,c0⟩:=HF.out.s4 i s hs
    have c0:=zaa hB5 c0
    have lc:=zag c0
    have hx1 : (i : Int) < (f.ss.length : Int):=by omega
    have hck:=fun W => zjz s (HF.out.s3 s (List.mem_of_getElem? hs)) W
    have hat:=zcf schB hs
    rw [hall.out,Bool.true_and] at hat
    cases hsb : schB s with
    | false =>
     have hR1 : R = false:=by rw [HR.out,zcd hs hsb];rfl
     have hne:=zkt hsb
     generalize chk false s = x at hck hne
     have d1 : (x == 0) = false:=by simp [hne]
     have d2 : (x != 0) = true:=by simp [hne]
     have d3 : decide (x = 0) = false:=by simp [hne]
     clear HR hall hat hsb hs
     subst hR1
     go_wp2_with (go_at_call 21;refine (hck _).mono ?_;rintro e w6 ⟨rfl,hb6⟩)
     go_ret
     exact ⟨rfl,thn3 hB5 hb6⟩
    | true =>
     rw [zku hsb] at hck
     have HAT:=(zab (hat.trans hsb))
     clear hall hat hsb hs
     go_wp2_with (go_at_call 21;refine (hck _).mono ?_;rintro e w6 ⟨rfl,hb6⟩)
     go_roundw
     case rel => exact ⟨i + 1,by omega,by go_num,HAT,thn3 hb5 hb6⟩
     case measure => simp [intOf];omega
   ·have hss : f.ss.all schB = true:=by rw [<- hall.out,List.take_of_length_le (by omega)]
    have HR2:=(zab (show R = (f.ts.all topB && f.vs.all (svcB f.ss.length f.ts.length)) by rw [HR.out,hss];rfl))
    clear hall hss HR
    go_wp2_with fail
    go_loopw [5] (fun vi wr => ∃ i : Nat,i <= f.ts.length /\ vi = .int .i64 i /\ Hid ((f.ts.take i).all topB = true) /\ Below (w.alloc (.cells #[.slice sa f.ss.length sc,.slice ta f.ts.length tc,.slice va f.vs.length vc] 26)).heap.size (w.alloc (.cells #[.slice sa f.ss.length sc,.slice ta f.ts.length tc,.slice va f.vs.length vc] 26)) wr) (fun i _ => f.ts.length - (intOf i).toNat)
    case atStart => exact ⟨0,Nat.zero_le _,rfl,rfl,hb5⟩
    case round =>
     clear hb5 hB5 q0 q1 q2 l5
     obtain ⟨i,hi,rfl,hall,hb5⟩:=hrel
     rename World => w6
     obtain ⟨q0,q1,q2⟩:=zah hb5 f0
     have l5:=zag q0
     have hB5:=thn3 hb0 hb5
     have hx0 := znn i
     by_cases hlt : i < f.ts.length
     ·obtain ⟨x,hs⟩ : ∃ s,f.ts[i]? = some s:=⟨f.ts[i],List.getElem?_eq_getElem hlt⟩
      obtain ⟨b,o,rfl,c0⟩:=HF.out.t3 i x hs
      have c0:=zaa hB5 c0
      have lc:=zag c0
      have hx1 : (i : Int) < (f.ts.length : Int):=by omega
      have hat:=zcf topB hs
      rw [hall.out,Bool.true_and] at hat
      by_cases hsb : 0 <= x /\ x <= 6
      ·obtain ⟨x0,x6⟩:=hsb
       have HAT:=(zab (hat.trans (show topB x = true by unfold topB;rw [decide_eq_true x0,decide_eq_true x6];rfl)))
       clear hall hat hs
       go_wp2_with fail
       all_goals first | (exfalso;omega) | skip
       go_roundw
       case rel => exact ⟨i + 1,by omega,by go_num,HAT,hb5⟩
       case measure => simp [intOf];omega
      ·have hR1 : R = false:=by
        rw [HR2.out,zcd hs (show topB x = false by unfold topB;rw [Bool.eq_false_iff];intro hc;simp at hc;omega)];rfl
       clear HR2 hall hat hs
       subst hR1
       go_wp2_with fail
       all_goals first | (go_ret;exact ⟨rfl,hB5⟩) | (exfalso;omega)
     ·have hss : f.ts.all topB = true:=by rw [<- hall.out,List.take_of_length_le (by omega)]
      have HR:=(zab (show R = f.vs.all (svcB f.ss.length f.ts.length) by rw [HR2.out,hss];rfl))
      clear hall hss HR2
      go_wp2_with fail
      go_loopw [6] (fun vi wr => ∃ i : Nat,i <= f.vs.length /\ vi = .int .i64 i /\ Hid ((f.vs.take i).all (svcB f.ss.length f.ts.length) = true) /\ Below (w.alloc (.cells #[.slice sa f.ss.length sc,.slice ta f.ts.length tc,.slice va f.vs.length vc] 26)).heap.size (w.alloc (.cells #[.slice sa f.ss.length sc,.slice ta f.ts.length tc,.slice va f.vs.length vc] 26)) wr) (fun i _ => f.vs.length - (intOf i).toNat)
      case atStart => exact ⟨0,Nat.zero_le _,rfl,rfl,hb5⟩
      case round =>
       clear hb5 hB5 q0 q1 q2 l5
       obtain ⟨i,hi,rfl,hall,hb5⟩:=hrel
       rename World => w7
       obtain ⟨q0,q1,q2⟩:=zah hb5 f0
       have l5:=zag q0
       have hB5:=thn3 hb0 hb5
       have hx0 := znn i
       by_cases hlt : i < f.vs.length
       ·obtain ⟨v,hs⟩ : ∃ s,f.vs[i]? = some s:=⟨f.vs[i],List.getElem?_eq_getElem hlt⟩
        obtain ⟨b,o,ra,rl,rc,rfl,c0,c1,c2,c3,hrs⟩:=HF.out.v3 i v hs
        have hrs:=RelSl.keepP hB5 hrs
        have c0:=zaa hB5 c0
        have c1:=zaa hB5 c1
        have c2:=zaa hB5 c2
        have c3:=zaa hB5 c3
        have lc:=zag c0
        have hx1 : (i : Int) < (f.vs.length : Int):=by omega
        have hmn:=fun (W : World) (h : Below w7.heap.size w7 W) => zl3 f.ss.length f.ts.length v sa ta (some ⟨b,o,none⟩) sc tc f.vs.length vc l1 l2 W ra rl rc (RelSl.keepP h hrs)
        have hat:=zcf (svcB f.ss.length f.ts.length) hs
        rw [hall.out,Bool.true_and] at hat
        have HAT:= zab hat
        have hno : svcB f.ss.length f.ts.length v = false -> R = false:=fun h => by rw [HR.out];exact zcd hs h
        generalize svcB f.ss.length f.ts.length v = x at hmn HAT hno
        clear hall hat hs hrs
        obtain ⟨v1,v2,v3,v4⟩:=v
        simp only at c0 c1 c2 hmn
        cases x with
        | false =>
         have hR1:=hno rfl
         clear HR hno
         subst hR1
         go_wp2_with fail
         go_region_held3 (fun w' => (w'.cell? ⟨w.heap.size,0,none⟩ = some (.slice sa f.ss.length sc) /\ w'.cell? ⟨w.heap.size,1,none⟩ = some (.slice ta f.ts.length tc) /\ w'.cell? ⟨w.heap.size,2,none⟩ = some (.slice (some ⟨b,o,none⟩) f.vs.length vc)) /\ w'.cell? ⟨b,o + i * 4,none⟩ = some (.int .i64 v1) /\ w'.cell? ⟨b,o + i * 4 + 1,none⟩ = some (.int .i64 v2) /\ w'.cell? ⟨b,o + i * 4 + 2,none⟩ = some (.int .i64 v3) /\ w'.cell? ⟨b,o + i * 4 + 3,none⟩ = some (.slice ra rl rc)) (go_keep) (first | (go_at_call 22;refine (hmn _ (Below.refl _ _).drew).mono ?_;rintro e w8 ⟨rfl,hb8⟩;have p0:=zaa hb8 q0;have p1:=zaa hb8 q1;have p2:=zaa hb8 q2;have r0:=zaa hb8 c0;have r1:=zaa hb8 c1;have r2:=zaa hb8 c2;have r3:=zaa hb8 c3))
         go_wp2_with fail
         go_ret
         exact ⟨rfl,thn3 hB5.drew hb8⟩
        | true =>
         clear hno
         go_wp2_with fail
         go_region_held3 (fun w' => (w'.cell? ⟨w.heap.size,0,none⟩ = some (.slice sa f.ss.length sc) /\ w'.cell? ⟨w.heap.size,1,none⟩ = some (.slice ta f.ts.length tc) /\ w'.cell? ⟨w.heap.size,2,none⟩ = some (.slice (some ⟨b,o,none⟩) f.vs.length vc)) /\ w'.cell? ⟨b,o + i * 4,none⟩ = some (.int .i64 v1) /\ w'.cell? ⟨b,o + i * 4 + 1,none⟩ = some (.int .i64 v2) /\ w'.cell? ⟨b,o + i * 4 + 2,none⟩ = some (.int .i64 v3) /\ w'.cell? ⟨b,o + i * 4 + 3,none⟩ = some (.slice ra rl rc)) (go_keep) (first | (go_at_call 22;refine (hmn _ (Below.refl _ _).drew).mono ?_;rintro e w8 ⟨rfl,hb8⟩;have p0:=zaa hb8 q0;have p1:=zaa hb8 q1;have p2:=zaa hb8 q2;have r0:=zaa hb8 c0;have r1:=zaa hb8 c1;have r2:=zaa hb8 c2;have r3:=zaa hb8 c3))
         go_wp2_with fail
         go_roundw
         case rel => exact ⟨i + 1,by omega,by go_num,HAT,thn3 hb5.drew hb8⟩
         case measure => simp [intOf];omega
       ·have hR1 : R = true:=by rw [HR.out,<- hall.out,List.take_of_length_le (by omega)]
        clear HR hall
        subst hR1
        go_wp2_with fail
        go_ret
        exact ⟨rfl,hB5⟩
end
section
open Go.RowKit
def ordI (f : zac) : Int:=if ordB f = true then 0 else 8
theorem zjy (f : zac) (sa ta va : Option Addr) (sl sc tl tc vl vc : Nat) (w : World) (hf : FleetAt w sa sl sc ta tl tc va vl vc f) :
  Calls Try.prog 7 #[.agg #[.slice sa sl sc,.slice ta tl tc,.slice va vl vc]] w fun e w' => e = .returned (.int .i64 (ordI f)) /\ Below w.heap.size w w':=by
 have c1:=fun (W : World) (h : Below w.heap.size w W) => ze3 f sa ta va sl sc tl tc vl vc W (hf.keep h)
 have e0:=box3 w (.slice sa sl sc) (.slice ta tl tc) (.slice va vl vc) 26
 unfold ordI
 generalize ordB f = x at c1
 clear hf
 cases x with
 | true =>
  rw [if_pos rfl]
  go_enter Try.func7,Try.ntmps7
  go_wp2_with (go_at_call 16;refine (c1 _ (by first | exact bel1 _ _ | exact Below.refl _ _)).mono ?_;rintro e w1 ⟨rfl,hb1⟩)
  go_ret
  first | exact ⟨rfl,thn3 (bel1 _ _) hb1⟩ | exact ⟨rfl,hb1⟩
 | false =>
  rw [if_neg (by simp)]
  go_enter Try.func7,Try.ntmps7
  go_wp2_with (go_at_call 16;refine (c1 _ (by first | exact bel1 _ _ | exact Below.refl _ _)).mono ?_;rintro e w1 ⟨rfl,hb1⟩)
  go_ret
  first | exact ⟨rfl,thn3 (bel1 _ _) hb1⟩ | exact ⟨rfl,hb1⟩
end
section
open Go.RowKit
theorem zn4 {f : zac} {ms : List (Int × Int)} (ho : Ord f) (hob : ordB f = true) : zbx f ms = if ms.length <= 200 /\ (List.range ms.length).all (rmB f ms) = true then (if rndB f = true then (((rN (rsB f ms) ms.length 0 : Nat) : Int),(0 : Int)) else (0,10)) else (0,9):=by
 unfold zbx
 rw [if_pos hob]
 have h1:=zhw (ms:=ms) ho ms.length 0 _ (by omega) (Nat.zero_le _) St.zero (fun i hi => by omega)
 rw [List.drop_zero] at h1
 have ham : amB (zaf f) ms = true ↔ ms.length <= 200 /\ (List.range ms.length).all (rmB f ms) = true:=by
  unfold amB;rw [Bool.and_eq_true,decide_eq_true_eq,h1]
 by_cases hc : ms.length <= 200 /\ (List.range ms.length).all (rmB f ms) = true
 ·rw [if_pos hc,if_pos (ham.2 hc),zoi ho]
  have h2:=zja (ms:=ms) ho (fun i hi => List.all_eq_true.1 hc.2 i (List.mem_range.2 hi)) ms.length 0 _ (by omega) (Nat.zero_le _) St.zero
  rw [List.drop_zero,Nat.add_zero] at h2
  rw [h2]
 ·rw [if_neg hc,if_neg (fun h => hc (ham.1 h))]
theorem zms {f : zac} (h : ordB f = true) : zbo f.ts = true:=by
 unfold ordB at h
 rw [Bool.and_eq_true,Bool.and_eq_true] at h
 exact h.1.2
theorem zon (f : zac) (sa ta va : Option Addr) (sl sc tl tc vl vc : Nat) (ms : List (Int × Int)) (ma : Option Addr) (mc : Nat) (w : World) (hf : FleetAt w sa sl sc ta tl tc va vl vc f) (hml : ms.length <= 2000000) (hm : MvsAt w ma ms) (haw : ∀ W,Calls Try.prog 5 #[] W fun e W' => e = .returned (.bool true) /\ Below W.heap.size W W') :
  Calls Try.prog 3 #[.agg #[.slice sa sl sc,.slice ta tl tc,.slice va vl vc],.slice ma ms.length mc] w fun e W => e = .returned (.bool true) /\ Below w.heap.size w W:=by
 have f0:=box3 w (.slice sa sl sc) (.slice ta tl tc) (.slice va vl vc) 26
 have hb0:=bel1 w (.cells #[.slice sa sl sc,.slice ta tl tc,.slice va vl vc] 26)
 have c1:=fun (W : World) (h : Below w.heap.size w W) => zgj f sa ta va sl sc tl tc vl vc ms ma mc W (hf.keep h) hml (hm.keep h)
 have c2:=fun (W : World) (h : Below w.heap.size w W) => zjy f sa ta va sl sc tl tc vl vc W (hf.keep h)
 have c3:=fun (W : World) (h : Below w.heap.size w W) => zob f sa ta va sl sc tl tc vl vc W (hf.keep h)
 cases hob : ordB f with
 | false =>
  rw [show zbx f ms = (0,8) by unfold zbx;rw [if_neg (by rw [hob];simp)]] at c1
  rw [show ordI f = 8 by unfold ordI;rw [if_neg (by rw [hob];simp)]] at c2
  rw [hob] at c3
  clear hf hm
  go_enter Try.func3,Try.ntmps3
  go_wp2_with (first
   | (go_at_call 5;refine (haw _).mono ?_;rintro e w1 ⟨rfl,hb1⟩;have f1:=zah hb1 f0;have g1:=thn3 hb0 hb1)
   | (go_at_call 6;refine (c1 _ g1).mono ?_;rintro e w2 ⟨rfl,hb2⟩;have f2:=zah hb2 f1;have g2:=thn3 g1 hb2)
   | (go_at_call 7;refine (c2 _ g2).mono ?_;rintro e w3 ⟨rfl,hb3⟩;have f3:=zah hb3 f2;have g3:=thn3 g2 hb3)
   | (go_at_call 8;refine (c3 _ g3).mono ?_;rintro e w4 ⟨rfl,hb4⟩;have f4:=zah hb4 f3;have g4:=thn3 g3 hb4))
  go_ret
  exact ⟨rfl,g4⟩
 | true =>
  have ho:=zfs hob
  have hts:=zmt (zms hob)
  rw [zn4 ho hob] at c1
  rw [show ordI f = 0 by unfold ordI;rw [if_pos hob]] at c2
  rw [hob] at c3
  by_cases hlen : 200 < ms.length
  ·rw [if_neg (fun h => by omega)] at c1
   have hl' : (200 : Int) < (ms.length : Int):=by omega
   clear hf hm ho hts
   go_enter Try.func3,Try.ntmps3
   go_wp2_with (first
    | (go_at_call 5;refine (haw _).mono ?_;rintro e w1 ⟨rfl,hb1⟩;have f1:=zah hb1 f0;have g1:=thn3 hb0 hb1)
    | (go_at_call 6;refine (c1 _ g1).mono ?_;rintro e w2 ⟨rfl,hb2⟩;have f2:=zah hb2 f1;have g2:=thn3 g1 hb2)
    | (go_at_call 7;refine (c2 _ g2).mono ?_;rintro e w3 ⟨rfl,hb3⟩;have f3:=zah hb3 f2;have g3:=thn3 g2 hb3)
    | (go_at_call 8;refine (c3 _ g3).mono ?_;rintro e w4 ⟨rfl,hb4⟩;have f4:=zah hb4 f3;have g4:=thn3 g3 hb4))
   go_ret
   exact ⟨rfl,g4⟩
  have hl' : (ms.length : Int) <= 200:=by omega
  have c5:=fun (W : World) (h : Below w.heap.size w W) => zo0 f ho sa ta va sl sc tl tc vl vc W (hf.keep h)
  have c6:=fun (fa : Option Addr) (fc : Nat) (W : World) (h : Below w.heap.size w W) (hM : MatAt W fa (fitM f.ss)) => zlv f ho hts sa ta va fa sl sc tl tc vl vc fc W (hf.keep h) hM ms ma mc hml (hm.keep h)
  have c7:=fun (fa : Option Addr) (fc : Nat) (W : World) (h : Below w.heap.size w W) (hM : MatAt W fa (fitM f.ss)) => znu f ho hts sa ta va fa sl sc tl tc vl vc fc W (hf.keep h) hM
  cases hall : (List.range ms.length).all (rmB f ms) with
  | false =>
   rw [hall,if_neg (fun h => by cases h.2)] at c1
   rw [hall,if_neg (by simp)] at c6
   clear hf hm ho hts c7 hall
   go_enter Try.func3,Try.ntmps3
   go_wp2_with (first
    | (go_at_call 5;refine (haw _).mono ?_;rintro e w1 ⟨rfl,hb1⟩;have f1:=zah hb1 f0;have g1:=thn3 hb0 hb1)
    | (go_at_call 6;refine (c1 _ g1).mono ?_;rintro e w2 ⟨rfl,hb2⟩;have f2:=zah hb2 f1;have g2:=thn3 g1 hb2)
    | (go_at_call 7;refine (c2 _ g2).mono ?_;rintro e w3 ⟨rfl,hb3⟩;have f3:=zah hb3 f2;have g3:=thn3 g2 hb3)
    | (go_at_call 8;refine (c3 _ g3).mono ?_;rintro e w4 ⟨rfl,hb4⟩;have f4:=zah hb4 f3;have g4:=thn3 g3 hb4)
    | (go_at_call 9;refine (c5 _ g4).mono ?_;rintro e w5 ⟨fa,fc,rfl,hM5,hb5⟩;have f5:=zah hb5 f4;have g5:=thn3 g4 hb5;have HM5:=(zab hM5))
    | (go_at_call 10;refine (c6 _ _ _ g5 HM5.out).mono ?_;rintro e w6 ⟨rfl,hb6⟩;have f6:=zah hb6 f5;have g6:=thn3 g5 hb6))
   go_ret
   exact ⟨rfl,g6⟩
  | true =>
   rw [hall] at c1 c6
   rw [if_pos ⟨by omega,rfl⟩] at c1
   rw [if_pos rfl] at c6
   cases hrn : rndB f with
   | false =>
    rw [hrn,if_neg (by simp)] at c1
    rw [hrn] at c7
    generalize rN (rsB f ms) ms.length 0 = K at c6
    have hk : ¬ ((K : Int) < 0):=by omega
    clear hf hm ho hts hall hrn
    go_enter Try.func3,Try.ntmps3
    go_wp2_with (first
     | (go_at_call 5;refine (haw _).mono ?_;rintro e w1 ⟨rfl,hb1⟩;have f1:=zah hb1 f0;have g1:=thn3 hb0 hb1)
     | (go_at_call 6;refine (c1 _ g1).mono ?_;rintro e w2 ⟨rfl,hb2⟩;have f2:=zah hb2 f1;have g2:=thn3 g1 hb2)
     | (go_at_call 7;refine (c2 _ g2).mono ?_;rintro e w3 ⟨rfl,hb3⟩;have f3:=zah hb3 f2;have g3:=thn3 g2 hb3)
     | (go_at_call 8;refine (c3 _ g3).mono ?_;rintro e w4 ⟨rfl,hb4⟩;have f4:=zah hb4 f3;have g4:=thn3 g3 hb4)
     | (go_at_call 9;refine (c5 _ g4).mono ?_;rintro e w5 ⟨fa,fc,rfl,hM5,hb5⟩;have f5:=zah hb5 f4;have g5:=thn3 g4 hb5;have HM5:=(zab hM5))
     | (go_at_call 10;refine (c6 _ _ _ g5 HM5.out).mono ?_;rintro e w6 ⟨rfl,hb6⟩;have f6:=zah hb6 f5;have g6:=thn3 g5 hb6;have HM6:=(zab (HM5.out.keep hb6)))
     | (go_at_call 11;refine (c7 _ _ _ g6 HM6.out).mono ?_;rintro e w7 ⟨rfl,hb7⟩;have g7:=thn3 g6 hb7))
    go_ret
    exact ⟨rfl,g7⟩
   | true =>
    rw [hrn,if_pos rfl] at c1
    rw [hrn] at c7
    generalize rN (rsB f ms) ms.length 0 = K at c1 c6
    have hk : ¬ ((K : Int) < 0):=by omega
    have k1 : ((K : Int) == (K : Int)) = true:=by simp
    clear hf hm ho hts hall hrn
    go_enter Try.func3,Try.ntmps3
    go_wp2_with (first
     | (go_at_call 5;refine (haw _).mono ?_;rintro e w1 ⟨rfl,hb1⟩;have f1:=zah hb1 f0;have g1:=thn3 hb0 hb1)
     | (go_at_call 6;refine (c1 _ g1).mono ?_;rintro e w2 ⟨rfl,hb2⟩;have f2:=zah hb2 f1;have g2:=thn3 g1 hb2)
     | (go_at_call 7;refine (c2 _ g2).mono ?_;rintro e w3 ⟨rfl,hb3⟩;have f3:=zah hb3 f2;have g3:=thn3 g2 hb3)
     | (go_at_call 8;refine (c3 _ g3).mono ?_;rintro e w4 ⟨rfl,hb4⟩;have f4:=zah hb4 f3;have g4:=thn3 g3 hb4)
     | (go_at_call 9;refine (c5 _ g4).mono ?_;rintro e w5 ⟨fa,fc,rfl,hM5,hb5⟩;have f5:=zah hb5 f4;have g5:=thn3 g4 hb5;have HM5:=(zab hM5))
     | (go_at_call 10;refine (c6 _ _ _ g5 HM5.out).mono ?_;rintro e w6 ⟨rfl,hb6⟩;have f6:=zah hb6 f5;have g6:=thn3 g5 hb6;have HM6:=(zab (HM5.out.keep hb6)))
     | (go_at_call 11;refine (c7 _ _ _ g6 HM6.out).mono ?_;rintro e w7 ⟨rfl,hb7⟩;have g7:=thn3 g6 hb7))
    go_ret
    exact ⟨za6 (by simp),g7⟩
end
end Go.Proofs.Ytkkekopomiehlab
