import Derived.Test.YtkkekopomiehlaaGreatCParse6
set_option linter.unusedVariables false
set_option linter.unusedSimpArgs false
set_option maxHeartbeats 40000000
set_option maxRecDepth 4000
namespace Go.Proofs.YtkkekopomiehlaaGreat
section
open Go.RowKit
theorem box3 (w : World) (v0 v1 v2 : Value) (t : TypeId) : (w.alloc (.cells #[v0,v1,v2] t)).cell? ⟨w.heap.size,0,none⟩ = some v0 /\ (w.alloc (.cells #[v0,v1,v2] t)).cell? ⟨w.heap.size,1,none⟩ = some v1 /\ (w.alloc (.cells #[v0,v1,v2] t)).cell? ⟨w.heap.size,2,none⟩ = some v2 :=
 ⟨za5 rfl rfl,za5 rfl rfl,za5 rfl rfl⟩
theorem zak {W w1 : World} (hb : Below W.heap.size W w1) {b : Nat} {v0 v1 v2 : Value} (h : W.cell? ⟨b,0,none⟩ = some v0 /\ W.cell? ⟨b,1,none⟩ = some v1 /\ W.cell? ⟨b,2,none⟩ = some v2) : w1.cell? ⟨b,0,none⟩ = some v0 /\ w1.cell? ⟨b,1,none⟩ = some v1 /\ w1.cell? ⟨b,2,none⟩ = some v2 :=
 ⟨zaa hb h.1,zaa hb h.2.1,zaa hb h.2.2⟩
theorem new3 {W : World} (o : Obj) {b : Nat} {v0 v1 v2 : Value} (h : W.cell? ⟨b,0,none⟩ = some v0 /\ W.cell? ⟨b,1,none⟩ = some v1 /\ W.cell? ⟨b,2,none⟩ = some v2) : (W.alloc o).cell? ⟨b,0,none⟩ = some v0 /\ (W.alloc o).cell? ⟨b,1,none⟩ = some v1 /\ (W.alloc o).cell? ⟨b,2,none⟩ = some v2 :=
 ⟨zaw _ h.1,zaw _ h.2.1,zaw _ h.2.2⟩
theorem zjl {A B : Prop} (a : A) (b : B) : A /\ B:=⟨a,b⟩
theorem zgn {W w1 : World} (hb : Below W.heap.size W w1) {b c : Nat} {v0 v1 v2 u0 u1 u2 : Value} (h : (W.cell? ⟨b,0,none⟩ = some v0 /\ W.cell? ⟨b,1,none⟩ = some v1 /\ W.cell? ⟨b,2,none⟩ = some v2) /\ W.cell? ⟨c,0,none⟩ = some u0 /\ W.cell? ⟨c,1,none⟩ = some u1 /\ W.cell? ⟨c,2,none⟩ = some u2) :
  (w1.cell? ⟨b,0,none⟩ = some v0 /\ w1.cell? ⟨b,1,none⟩ = some v1 /\ w1.cell? ⟨b,2,none⟩ = some v2) /\ w1.cell? ⟨c,0,none⟩ = some u0 /\ w1.cell? ⟨c,1,none⟩ = some u1 /\ w1.cell? ⟨c,2,none⟩ = some u2:=⟨zak hb h.1,zak hb h.2⟩
theorem bel1 (w : World) (o : Obj) : Below w.heap.size w (w.alloc o):=(Below.refl _ _).alloc (Nat.le_refl _) _
theorem thn3 {w W w1 : World} (h : Below w.heap.size w W) (k : Below W.heap.size W w1) : Below w.heap.size w w1:=h.trans (k.mono h.size)
def pinK (ns nt : Nat) (ps : List PinD) (k : Nat) : Bool :=
 match ps[k]? with
 | some p => pinB ns nt p && !((ps.take k).any fun q => q.t == p.t)
 | none => true
def zb9 (ns nt : Nat) (ps : List PinD) : Bool:=decide (ps.length <= 4) && (List.range ps.length).all (pinK ns nt ps)
theorem zxf (ns nt : Nat) (ps : List PinD) (sa ta va : Option Addr) (sc tc vl vc : Nat) (hns : ns <= 2000000) (hnt : nt <= 2000000) (w : World) (a : Option Addr) (l cap : Nat) (hp : PinSl w a l cap ps) :
  Calls Tryz.prog 83 #[.agg #[.slice sa ns sc,.slice ta nt tc,.slice va vl vc],.slice a l cap] w fun e w' => e = .returned (.bool (zb9 ns nt ps)) /\ Below w.heap.size w w':=by
 obtain ⟨rfl,hl,hlc,hc9,hp⟩:=hp
 obtain ⟨R,hR⟩ : ∃ R,R = zb9 ns nt ps:=⟨_,rfl⟩
 rw [<- hR]
 by_cases h4 : ps.length <= 4
 ·have HR : Hid (R = (List.range ps.length).all (pinK ns nt ps)):=by show _ = _;rw [hR];unfold zb9;rw [decide_eq_true h4];rfl
  clear hR
  go_enter Tryz.func83,Tryz.ntmps83
  go_wp2_with fail
  go_loopw [12] (fun vi wr => ∃ i : Nat,i <= ps.length /\ vi = .int .i64 i /\ Hid ((List.range i).all (pinK ns nt ps) = true) /\ Below (w.alloc (.cells #[.slice sa ns sc,.slice ta nt tc,.slice va vl vc] 26)).heap.size (w.alloc (.cells #[.slice sa ns sc,.slice ta nt tc,.slice va vl vc] 26)) wr) (fun i _ => ps.length - (intOf i).toNat)
  case atStart => exact ⟨0,Nat.zero_le _,rfl,(by show _ = _;rfl),Below.refl _ _⟩
  case round =>
   obtain ⟨i,hi,rfl,hn,hb⟩:=hrel
   have hbw:=thn3 (bel1 w _) hb
   by_cases hlt : i < ps.length
   ·obtain ⟨p,hpi⟩ : ∃ p,ps[i]? = some p:=⟨ps[i],List.getElem?_eq_getElem hlt⟩
    obtain ⟨b,o,rfl,c0,c1,c2⟩:=hp i p hpi
    have c0:=zaa hbw c0
    have c1:=zaa hbw c1
    have c2:=zaa hbw c2
    have hbl:=zaf c0
    obtain ⟨f0,f1,f2⟩:=zak hb (box3 w _ _ _ _)
    have hfl : w.heap.size < wr.heap.size:=zaf f0
    have hx0 := znn i
    have hx1 : (i : Int) <= (cap : Int):=by omega
    have hx2 : (i : Int) <= (ps.length : Int):=by omega
    have hcall:=fun W => zxe ns nt p sa ta va sc tc vl vc hns hnt W
    have hfor:=fun (W : World) (h : Below w.heap.size w W) => zuz (ps.take i) p.t W (some ⟨b,o,none⟩) cap (by rw [List.length_take];omega) ((hp.take i).keep h)
    rw [List.length_take,Nat.min_eq_left (by omega)] at hfor
    have hK : pinK ns nt ps i = (pinB ns nt p && !((ps.take i).any fun q => q.t == p.t)):=by unfold pinK;rw [hpi]
    generalize pinB ns nt p = x1 at hcall hK
    generalize ((ps.take i).any fun q => q.t == p.t) = x2 at hfor hK
    have hno : pinK ns nt ps i = false -> R = false:=fun h => by rw [HR.out];exact zmd hlt h
    have hyes : pinK ns nt ps i = true -> Hid ((List.range (i + 1)).all (pinK ns nt ps) = true):=fun h => by show _ = _;rw [zmc,hn.out,h];rfl
    rw [hK] at hno hyes
    clear hK hpi hn HR hp
    obtain ⟨x,y,z⟩:=p
    simp only at c0 c1 c2 hcall hfor
    cases x1 with
    | false =>
     have hR1:=hno rfl
     clear hno hyes hfor
     subst hR1
     have e0:=zjl (new3 (.cells #[.int .i64 x,.int .i64 y,.int .i64 z] 94) ⟨f0,f1,f2⟩) (box3 wr (.int .i64 x) (.int .i64 y) (.int .i64 z) 94)
     go_wp2_with fail
     first | go_region_with (first | (go_at_call 106;refine (hcall _).mono ?_;rintro e w3 ⟨rfl,hb3⟩;have e1:=zgn hb3 e0)) | fail
     all_goals
      go_wp2_with fail
      go_ret
      first | exact ⟨rfl,thn3 (thn3 hbw (bel1 _ _)).drew hb3⟩ | exact ⟨rfl,thn3 (thn3 hbw (bel1 _ _)) hb3⟩
    | true =>
     cases x2 with
     | true =>
      have hR1:=hno rfl
      clear hno hyes
      subst hR1
      have e0:=zjl (new3 (.cells #[.int .i64 x,.int .i64 y,.int .i64 z] 94) ⟨f0,f1,f2⟩) (box3 wr (.int .i64 x) (.int .i64 y) (.int .i64 z) 94)
      go_wp2_with fail
      go_region_held3 (fun w' => (w'.cell? ⟨w.heap.size,0,none⟩ = some (.slice sa ns sc) /\ w'.cell? ⟨w.heap.size,1,none⟩ = some (.slice ta nt tc) /\ w'.cell? ⟨w.heap.size,2,none⟩ = some (.slice va vl vc)) /\ w'.cell? ⟨wr.heap.size,0,none⟩ = some (.int .i64 x) /\ w'.cell? ⟨wr.heap.size,1,none⟩ = some (.int .i64 y) /\ w'.cell? ⟨wr.heap.size,2,none⟩ = some (.int .i64 z)) (go_keep) (first | (go_at_call 106;refine (hcall _).mono ?_;rintro e w3 ⟨rfl,hb3⟩;have e1:=zgn hb3 e0) | (go_at_call 107;refine (hfor _ (by first | exact thn3 (thn3 hbw (bel1 _ _)).drew hb3 | exact thn3 (thn3 hbw (bel1 _ _)) hb3)).mono ?_;rintro e w4 ⟨rfl,hb4⟩;have e2:=zgn hb4 e1))
      go_wp2_with fail
      go_ret
      first | exact ⟨rfl,thn3 (thn3 (thn3 hbw (bel1 _ _)).drew hb3) hb4⟩ | exact ⟨rfl,thn3 (thn3 (thn3 hbw (bel1 _ _)) hb3) hb4⟩
     | false =>
      have hy:=hyes rfl
      clear hno hyes
      have e0:=zjl (new3 (.cells #[.int .i64 x,.int .i64 y,.int .i64 z] 94) ⟨f0,f1,f2⟩) (box3 wr (.int .i64 x) (.int .i64 y) (.int .i64 z) 94)
      go_wp2_with fail
      go_region_held3 (fun w' => (w'.cell? ⟨w.heap.size,0,none⟩ = some (.slice sa ns sc) /\ w'.cell? ⟨w.heap.size,1,none⟩ = some (.slice ta nt tc) /\ w'.cell? ⟨w.heap.size,2,none⟩ = some (.slice va vl vc)) /\ w'.cell? ⟨wr.heap.size,0,none⟩ = some (.int .i64 x) /\ w'.cell? ⟨wr.heap.size,1,none⟩ = some (.int .i64 y) /\ w'.cell? ⟨wr.heap.size,2,none⟩ = some (.int .i64 z)) (go_keep) (first | (go_at_call 106;refine (hcall _).mono ?_;rintro e w3 ⟨rfl,hb3⟩;have e1:=zgn hb3 e0) | (go_at_call 107;refine (hfor _ (by first | exact thn3 (thn3 hbw (bel1 _ _)).drew hb3 | exact thn3 (thn3 hbw (bel1 _ _)) hb3)).mono ?_;rintro e w4 ⟨rfl,hb4⟩;have e2:=zgn hb4 e1))
      go_wp2_with fail
      go_roundw
      case rel => first | exact ⟨i + 1,by omega,by go_num,hy,thn3 (thn3 (thn3 hb (bel1 _ _)).drew hb3) hb4⟩ | exact ⟨i + 1,by omega,by go_num,hy,thn3 (thn3 (thn3 hb (bel1 _ _)) hb3) hb4⟩
      case measure => simp [intOf];omega
   ·have hR1 : R = true:=by rw [HR.out,<- hn.out,show i = ps.length by omega]
    clear HR hn
    subst hR1
    go_wp2_with fail
    go_ret
    exact ⟨rfl,hbw⟩
 ·have hR1 : R = false:=by rw [hR];unfold zb9;rw [decide_eq_false h4];rfl
  clear hR
  subst hR1
  go_enter Tryz.func83,Tryz.ntmps83
  go_wp2_with fail
  go_ret
  exact ⟨rfl,bel1 _ _⟩
end
section
open Go.RowKit
def svcB (ns nt : Nat) (v : SvcD) : Bool:=decide (1 <= v.size) && decide (v.size <= 3) && decide (1 <= v.rels.length) && decide (v.rels.length <= 3) && numB v.now v.rels.length && numB v.want v.rels.length && v.rels.all (zb9 ns nt)
theorem zcb {α : Type} {l : List α} {x : Nat} {p : α} (f : α -> Bool) (h : l[x]? = some p) : (l.take (x + 1)).all f = ((l.take x).all f && f p):=by
 rw [List.take_add_one,h,List.all_append];simp
theorem zca {α : Type} {l : List α} {x : Nat} {p : α} {f : α -> Bool} (h : l[x]? = some p) (hp : f p = false) : l.all f = false:=by
 cases hc : l.all f with
 | false => rfl
 | true => rw [List.all_eq_true] at hc;rw [hc p (List.mem_of_getElem? h)] at hp;cases hp
theorem zy3 (ns nt : Nat) (v : SvcD) (sa ta va : Option Addr) (sc tc vl vc : Nat) (hns : ns <= 2000000) (hnt : nt <= 2000000) (w : World) (ra : Option Addr) (rl rc : Nat) (hp : RelSl PinSl w ra rl rc v.rels) :
  Calls Tryz.prog 68 #[.agg #[.slice sa ns sc,.slice ta nt tc,.slice va vl vc],.agg #[.int .i64 v.size,.int .i64 v.now,.int .i64 v.want,.slice ra rl rc]] w fun e w' => e = .returned (.bool (svcB ns nt v)) /\ Below w.heap.size w w':=by
 obtain ⟨sz,nw,wn,rels⟩:=v
 simp only at hp ⊢
 obtain ⟨rfl,hl,hlc,hc9,hp⟩:=hp
 obtain ⟨R,hR⟩ : ∃ R,R = svcB ns nt ⟨sz,nw,wn,rels⟩:=⟨_,rfl⟩
 rw [<- hR]
 unfold svcB at hR
 simp only at hR
 by_cases h1 : 1 <= sz /\ sz <= 3 /\ 1 <= rels.length /\ rels.length <= 3
 ·obtain ⟨g1,g2,g3,g4⟩:=h1
  rw [decide_eq_true g1,decide_eq_true g2,decide_eq_true g3,decide_eq_true g4] at hR
  have n1:=fun w => zct nw rels.length w
  have n2:=fun w => zct wn rels.length w
  generalize numB nw rels.length = b1 at hR n1
  generalize numB wn rels.length = b2 at hR n2
  have hbx : Below w.heap.size w ((w.alloc (.cells #[.slice sa ns sc,.slice ta nt tc,.slice va vl vc] 26)).alloc (.cells #[.int .i64 sz,.int .i64 nw,.int .i64 wn,.slice ra rels.length rc] 67)):=thn3 (bel1 _ _) (bel1 _ _)
  cases b1 with
  | false =>
   have hR1 : R = false:=hR
   clear hR
   subst hR1
   go_enter Tryz.func68,Tryz.ntmps68
   go_wp2_with (go_at_call 69;refine (n1 _).mono ?_;rintro e _ ⟨rfl,rfl⟩;have m1 : True:=trivial)
   go_ret
   exact ⟨rfl,hbx⟩
  | true =>
   cases b2 with
   | false =>
    have hR1 : R = false:=hR
    clear hR
    subst hR1
    go_enter Tryz.func68,Tryz.ntmps68
    go_wp2_with (first | (go_at_call 69;have hq:=m1;refine (n2 _).mono ?_;rintro e _ ⟨rfl,rfl⟩;have m2 : True:=trivial) | (go_at_call 69;refine (n1 _).mono ?_;rintro e _ ⟨rfl,rfl⟩;have m1 : True:=trivial))
    go_ret
    exact ⟨rfl,hbx⟩
   | true =>
    simp only [Bool.true_and] at hR
    have HR : Hid (R = rels.all (zb9 ns nt)):=hR
    clear hR
    go_enter Tryz.func68,Tryz.ntmps68
    go_wp2_with (first | (go_at_call 69;have hq:=m1;refine (n2 _).mono ?_;rintro e _ ⟨rfl,rfl⟩;have m2 : True:=trivial) | (go_at_call 69;refine (n1 _).mono ?_;rintro e _ ⟨rfl,rfl⟩;have m1 : True:=trivial))
    go_loopw [42] (fun vi wr => ∃ i : Nat,i <= rels.length /\ vi = .int .i64 i /\ Hid ((rels.take i).all (zb9 ns nt) = true) /\ Below ((w.alloc (.cells #[.slice sa ns sc,.slice ta nt tc,.slice va vl vc] 26)).alloc (.cells #[.int .i64 sz,.int .i64 nw,.int .i64 wn,.slice ra rels.length rc] 67)).heap.size ((w.alloc (.cells #[.slice sa ns sc,.slice ta nt tc,.slice va vl vc] 26)).alloc (.cells #[.int .i64 sz,.int .i64 nw,.int .i64 wn,.slice ra rels.length rc] 67)) wr) (fun i _ => rels.length - (intOf i).toNat)
    case atStart => exact ⟨0,Nat.zero_le _,rfl,(by show _ = _;rfl),Below.refl _ _⟩
    case round =>
     obtain ⟨i,hi,rfl,hn,hb⟩:=hrel
     have hbw:=thn3 hbx hb
     by_cases hlt : i < rels.length
     ·obtain ⟨ps,hpi⟩ : ∃ ps,rels[i]? = some ps:=⟨rels[i],List.getElem?_eq_getElem hlt⟩
      obtain ⟨b,o,pa,pl,pc,rfl,c0,hps⟩:=hp i ps hpi
      have c0:=zaa hbw c0
      have hbl:=zaf c0
      obtain ⟨f0,f1,f2⟩:=zak hb (new3 _ (box3 w _ _ _ _))
      have hfl : w.heap.size < wr.heap.size:=zaf f0
      have hcall:=fun (W : World) (h : Below wr.heap.size wr W) => zxf ns nt ps sa ta va sc tc vl vc hns hnt W pa pl pc (hps.keep (thn3 hbw h))
      have hsn:=zcb (zb9 ns nt) hpi
      have hno : zb9 ns nt ps = false -> R = false:=fun h => by rw [HR.out];exact zca hpi h
      rw [hn.out,Bool.true_and] at hsn
      generalize zb9 ns nt ps = x at hcall hsn hno
      have hx0 := znn i
      have hx1 : (i : Int) < (rels.length : Int):=by omega
      clear hpi hps hn HR hp
      cases x with
      | false =>
       have hR1:=hno rfl
       clear hno hsn
       subst hR1
       go_wp2_with (go_at_call 83;refine (hcall _ (bel1 _ _)).mono ?_;rintro e w3 ⟨rfl,hb3⟩)
       go_ret
       exact ⟨rfl,thn3 (thn3 hbw (bel1 _ _)) hb3⟩
      | true =>
       have hy : Hid ((rels.take (i + 1)).all (zb9 ns nt) = true):=hsn
       clear hno hsn
       go_wp2_with (go_at_call 83;refine (hcall _ (bel1 _ _)).mono ?_;rintro e w3 ⟨rfl,hb3⟩)
       go_roundw
       case rel => exact ⟨i + 1,by omega,by go_num,hy,thn3 (thn3 hb (bel1 _ _)) hb3⟩
       case measure => simp [intOf];omega
     ·have hR1 : R = true:=by rw [HR.out,<- hn.out,List.take_of_length_le (by omega)]
      clear HR hn
      subst hR1
      go_wp2_with fail
      go_ret
      exact ⟨rfl,hbw⟩
 ·have hR1 : R = false:=by
   rw [hR]
   by_cases g1 : 1 <= sz
   ·by_cases g2 : sz <= 3
    ·by_cases g3 : 1 <= rels.length
     ·rw [decide_eq_false (show ¬ rels.length <= 3 by omega)];simp
     ·rw [decide_eq_false g3];simp
    ·rw [decide_eq_false g2];simp
   ·rw [decide_eq_false g1];simp
  clear hR
  subst hR1
  by_cases g1 : 1 <= sz
  ·by_cases g2 : sz <= 3
   ·by_cases g3 : 1 <= rels.length
    ·have g4 : 3 < rels.length:=by omega
     clear h1
     go_enter Tryz.func68,Tryz.ntmps68
     go_wp2_with fail
     go_ret
     exact ⟨rfl,thn3 (bel1 _ _) (bel1 _ _)⟩
    ·have g4 : rels.length = 0:=by omega
     clear h1 g3
     go_enter Tryz.func68,Tryz.ntmps68
     go_wp2_with fail
     go_ret
     exact ⟨rfl,thn3 (bel1 _ _) (bel1 _ _)⟩
   ·clear h1
    go_enter Tryz.func68,Tryz.ntmps68
    go_wp2_with fail
    go_ret
    exact ⟨rfl,thn3 (bel1 _ _) (bel1 _ _)⟩
  ·clear h1
   go_enter Tryz.func68,Tryz.ntmps68
   go_wp2_with fail
   go_ret
   exact ⟨rfl,thn3 (bel1 _ _) (bel1 _ _)⟩
end
section
open Go.RowKit
def zeh (ns nt : Nat) (vs : List SvcD) : Bool:=decide (1 <= vs.length) && decide (vs.length <= 3) && vs.all (svcB ns nt)
theorem RelSl.keepP {w w' : World} (hb : Below w.heap.size w w') {a : Option Addr} {l c : Nat} {rs : List (List PinD)} (h : RelSl PinSl w a l c rs) : RelSl PinSl w' a l c rs:=h.keep (fun _ _ _ _ h => h.keep hb) hb
theorem zy4 (ns nt : Nat) (vs : List SvcD) (sa ta va : Option Addr) (sc tc vl vc : Nat) (hns : ns <= 2000000) (hnt : nt <= 2000000) (w : World) (hvl : vl = vs.length) (hvs : vs.length <= 2000000) (hp : SvcsAt (RelSl PinSl) w va vs) :
  Calls Tryz.prog 44 #[.agg #[.slice sa ns sc,.slice ta nt tc,.slice va vl vc]] w fun e w' => e = .returned (.bool (zeh ns nt vs)) /\ Below w.heap.size w w':=by
 obtain ⟨R,hR⟩ : ∃ R,R = zeh ns nt vs:=⟨_,rfl⟩
 rw [<- hR]
 unfold zeh at hR
 subst hvl
 by_cases h1 : 1 <= vs.length
 ·by_cases h2 : vs.length <= 3
  ·rw [decide_eq_true h1,decide_eq_true h2] at hR
   simp only [Bool.true_and] at hR
   have HR : Hid (R = vs.all (svcB ns nt)):=hR
   clear hR
   go_enter Tryz.func44,Tryz.ntmps44
   go_wp2_with fail
   go_loopw [18] (fun vi wr => ∃ i : Nat,i <= vs.length /\ vi = .int .i64 i /\ Hid ((vs.take i).all (svcB ns nt) = true) /\ Below (w.alloc (.cells #[.slice sa ns sc,.slice ta nt tc,.slice va vs.length vc] 26)).heap.size (w.alloc (.cells #[.slice sa ns sc,.slice ta nt tc,.slice va vs.length vc] 26)) wr) (fun i _ => vs.length - (intOf i).toNat)
   case atStart => exact ⟨0,Nat.zero_le _,rfl,(by show _ = _;rfl),Below.refl _ _⟩
   case round =>
    obtain ⟨i,hi,rfl,hn,hb⟩:=hrel
    have hbw:=thn3 (bel1 _ _) hb
    by_cases hlt : i < vs.length
    ·obtain ⟨v,hvi⟩ : ∃ v,vs[i]? = some v:=⟨vs[i],List.getElem?_eq_getElem hlt⟩
     obtain ⟨b,o,ra,rl,rc,rfl,c0,c1,c2,c3,hrs⟩:=hp i v hvi
     have c0:=zaa hbw c0
     have c1:=zaa hbw c1
     have c2:=zaa hbw c2
     have c3:=zaa hbw c3
     have hbl:=zaf c0
     obtain ⟨f0,f1,f2⟩:=zak hb (box3 w _ _ _ _)
     have hfl : w.heap.size < wr.heap.size:=zaf f0
     have hcall:=fun (W : World) (h : Below wr.heap.size wr W) => zy3 ns nt v sa ta (some ⟨b,o,none⟩) sc tc vs.length vc hns hnt W ra rl rc (RelSl.keepP (thn3 hbw h) hrs)
     have hsn:=zcb (svcB ns nt) hvi
     have hno : svcB ns nt v = false -> R = false:=fun h => by rw [HR.out];exact zca hvi h
     rw [hn.out,Bool.true_and] at hsn
     generalize svcB ns nt v = x at hcall hsn hno
     have hx0 := znn i
     have hx1 : (i : Int) < (vs.length : Int):=by omega
     obtain ⟨sz,nw,wn,rels⟩:=v
     simp only at c0 c1 c2 c3 hcall
     clear hvi hrs hn HR hp
     cases x with
     | false =>
      have hR1:=hno rfl
      clear hno hsn
      subst hR1
      go_wp2_with (go_at_call 68;refine (hcall _ (bel1 _ _)).mono ?_;rintro e w3 ⟨rfl,hb3⟩)
      go_ret
      exact ⟨rfl,thn3 (thn3 hbw (bel1 _ _)) hb3⟩
     | true =>
      have hy : Hid ((vs.take (i + 1)).all (svcB ns nt) = true):=hsn
      clear hno hsn
      go_wp2_with (go_at_call 68;refine (hcall _ (bel1 _ _)).mono ?_;rintro e w3 ⟨rfl,hb3⟩)
      go_roundw
      case rel => exact ⟨i + 1,by omega,by go_num,hy,thn3 (thn3 hb (bel1 _ _)) hb3⟩
      case measure => simp [intOf];omega
    ·have hR1 : R = true:=by rw [HR.out,<- hn.out,List.take_of_length_le (by omega)]
     clear HR hn
     subst hR1
     go_wp2_with fail
     go_ret
     exact ⟨rfl,hbw⟩
  ·have hR1 : R = false:=by rw [hR,decide_eq_false h2];simp
   clear hR
   subst hR1
   go_enter Tryz.func44,Tryz.ntmps44
   go_wp2_with fail
   go_ret
   exact ⟨rfl,bel1 _ _⟩
 ·have hR1 : R = false:=by rw [hR,decide_eq_false h1];simp
  have h0 : vs.length = 0:=by omega
  clear hR h1
  subst hR1
  go_enter Tryz.func44,Tryz.ntmps44
  go_wp2_with fail
  go_ret
  exact ⟨rfl,bel1 _ _⟩
def topB (k : Int) : Bool:=decide (0 <= k) && decide (k <= 6)
def zei (ts : List Int) : Bool:=decide (ts.length <= 4) && ts.all topB
theorem yaae (ts : List Int) (w : World) (a : Option Addr) (cap : Nat) (hl : ts.length <= 2000000) (hp : IntsAt w a ts) :
  Calls Tryz.prog 43 #[.slice a ts.length cap] w fun e w' => e = .returned (.bool (zei ts)) /\ Below w.heap.size w w':=by
 obtain ⟨R,hR⟩ : ∃ R,R = zei ts:=⟨_,rfl⟩
 rw [<- hR]
 unfold zei at hR
 by_cases h2 : ts.length <= 4
 ·rw [decide_eq_true h2] at hR
  simp only [Bool.true_and] at hR
  have HR : Hid (R = ts.all topB):=hR
  clear hR
  go_enter Tryz.func43,Tryz.ntmps43
  go_wp2_with fail
  go_loopw [10] (fun vi wr => ∃ i : Nat,i <= ts.length /\ vi = .int .i64 i /\ Hid ((ts.take i).all topB = true) /\ Below w.heap.size w wr) (fun i _ => ts.length - (intOf i).toNat)
  case atStart => exact ⟨0,Nat.zero_le _,rfl,(by show _ = _;rfl),Below.refl _ _⟩
  case round =>
   obtain ⟨i,hi,rfl,hn,hb⟩:=hrel
   by_cases hlt : i < ts.length
   ·obtain ⟨k,hki⟩ : ∃ k,ts[i]? = some k:=⟨ts[i],List.getElem?_eq_getElem hlt⟩
    obtain ⟨b,o,rfl,c0⟩:=hp i k hki
    have c0:=zaa hb c0
    have hbl:=zaf c0
    have hsn:=zcb topB hki
    have hno : topB k = false -> R = false:=fun h => by rw [HR.out];exact zca hki h
    rw [hn.out,Bool.true_and] at hsn
    have hx0 := znn i
    have hx1 : (i : Int) < (ts.length : Int):=by omega
    clear hki hn HR hp
    by_cases hk : 0 <= k /\ k <= 6
    ·obtain ⟨k0,k6⟩:=hk
     have hy : Hid ((ts.take (i + 1)).all topB = true):=by show _ = _;rw [hsn];unfold topB;simp;omega
     clear hno hsn
     go_wp2_with fail
     go_roundw
     case rel => exact ⟨i + 1,by omega,by go_num,hy,thn3 hb (bel1 _ _)⟩
     case measure => simp [intOf];omega
    ·have hR1:=hno (by unfold topB;simp;omega)
     clear hno hsn
     subst hR1
     by_cases k0 : 0 <= k
     ·have k6 : 6 < k:=by omega
      clear hk
      go_wp2_with fail
      go_ret
      exact ⟨rfl,thn3 hb (bel1 _ _)⟩
     ·clear hk
      go_wp2_with fail
      go_ret
      exact ⟨rfl,thn3 hb (bel1 _ _)⟩
   ·have hR1 : R = true:=by rw [HR.out,<- hn.out,List.take_of_length_le (by omega)]
    clear HR hn
    subst hR1
    go_wp2_with fail
    go_ret
    exact ⟨rfl,hb⟩
 ·have hR1 : R = false:=by rw [hR,decide_eq_false h2];simp
  clear hR
  subst hR1
  go_enter Tryz.func43,Tryz.ntmps43
  go_wp2_with fail
  go_ret
  exact ⟨rfl,Below.refl _ _⟩
def schB (s : ByteArray) : Bool:=decide (s.size <= 60) && (pAll false s).isSome
def zc5 (ss : List ByteArray) : Bool:=decide (ss.length <= 8) && ss.all schB
theorem zsh (s : ByteArray) (hs : s.size <= maxLen) (w : World) : Calls Tryz.prog 67 #[.string s] w fun e w' => ∃ (k : Int) (l : ByteArray) (o : Bool) (ai af : Option Addr) (li ci lf cf : Nat),e = .returned (.tuple #[.agg #[.int .i64 k,.string l,.bool o,.slice ai li ci,.slice af lf cf],.bool (schB s)]) /\ Below w.heap.size w w':=by
 by_cases h : s.size <= 60
 ·refine (zl8 h w).mono ?_
  rintro e w' ⟨h1,h2⟩
  unfold schB
  rw [decide_eq_true h]
  cases hx : pAll false s with
  | none => rw [hx] at h1;exact ⟨_,_,_,_,_,_,_,_,_,h1,h2⟩
  | some ty => rw [hx] at h1;obtain ⟨ai,li,ci,af,lf,cf,h1,_⟩:=h1;exact ⟨_,_,_,_,_,_,_,_,_,h1,h2⟩
 ·have hz : schB s = false:=by unfold schB;rw [decide_eq_false h];rfl
  rw [hz]
  clear hz
  unfold maxLen at hs
  go_enter Tryz.func67,Tryz.ntmps67
  go_wp2_with fail
  exact bodyPost_ret (v:=.tuple #[.agg #[.int .i64 0,.string ByteArray.empty,.bool false,.slice none 0 0,.slice none 0 0],.bool false]) (by simp [results,Tryz.results67,go_sem];rfl) rfl ⟨_,_,_,_,_,_,_,_,_,rfl,(Below.refl _ _).alloc (Nat.le_refl _) _⟩
theorem zyk (ss : List ByteArray) (w : World) (a : Option Addr) (cap : Nat) (hl : ss.length <= 2000000) (hz : ∀ s ∈ ss,s.size <= maxLen) (hp : StrsAt w a ss) :
  Calls Tryz.prog 42 #[.slice a ss.length cap] w fun e w' => e = .returned (.bool (zc5 ss)) /\ Below w.heap.size w w':=by
 obtain ⟨R,hR⟩ : ∃ R,R = zc5 ss:=⟨_,rfl⟩
 rw [<- hR]
 unfold zc5 at hR
 by_cases h2 : ss.length <= 8
 ·rw [decide_eq_true h2] at hR
  simp only [Bool.true_and] at hR
  have HR : Hid (R = ss.all schB):=hR
  clear hR
  go_enter Tryz.func42,Tryz.ntmps42
  go_wp2_with fail
  go_loopw [12] (fun vi wr => ∃ i : Nat,i <= ss.length /\ vi = .int .i64 i /\ Hid ((ss.take i).all schB = true) /\ Below w.heap.size w wr) (fun i _ => ss.length - (intOf i).toNat)
  case atStart => exact ⟨0,Nat.zero_le _,rfl,(by show _ = _;rfl),Below.refl _ _⟩
  case round =>
   obtain ⟨i,hi,rfl,hn,hb⟩:=hrel
   by_cases hlt : i < ss.length
   ·obtain ⟨s,hsi⟩ : ∃ s,ss[i]? = some s:=⟨ss[i],List.getElem?_eq_getElem hlt⟩
    obtain ⟨b,o,rfl,c0⟩:=hp i s hsi
    have c0:=zaa hb c0
    have hbl:=zaf c0
    have hcall:=fun W => zsh s (hz s (List.mem_of_getElem? hsi)) W
    have hsn:=zcb schB hsi
    have hno : schB s = false -> R = false:=fun h => by rw [HR.out];exact zca hsi h
    rw [hn.out,Bool.true_and] at hsn
    generalize schB s = x at hcall hsn hno
    have hx0 := znn i
    have hx1 : (i : Int) < (ss.length : Int):=by omega
    clear hsi hn HR hp hz
    cases x with
    | false =>
     have hR1:=hno rfl
     clear hno hsn
     subst hR1
     go_wp2_with (go_at_call 67;refine (hcall _).mono ?_;rintro e w3 ⟨k,l,op,ai,af,li,ci,lf,cf,rfl,hb3⟩)
     go_ret
     exact ⟨rfl,thn3 (thn3 hb hb3) (bel1 _ _)⟩
    | true =>
     have hy : Hid ((ss.take (i + 1)).all schB = true):=hsn
     clear hno hsn
     go_wp2_with (go_at_call 67;refine (hcall _).mono ?_;rintro e w3 ⟨k,l,op,ai,af,li,ci,lf,cf,rfl,hb3⟩)
     go_roundw
     case rel => exact ⟨i + 1,by omega,by go_num,hy,thn3 (thn3 hb hb3) (bel1 _ _)⟩
     case measure => simp [intOf];omega
   ·have hR1 : R = true:=by rw [HR.out,<- hn.out,List.take_of_length_le (by omega)]
    clear HR hn
    subst hR1
    go_wp2_with fail
    go_ret
    exact ⟨rfl,hb⟩
 ·have hR1 : R = false:=by rw [hR,decide_eq_false h2];simp
  clear hR
  subst hR1
  go_enter Tryz.func42,Tryz.ntmps42
  go_wp2_with fail
  go_ret
  exact ⟨rfl,Below.refl _ _⟩
end
section
open Go.RowKit
def ordB (f : zae) : Bool:=zc5 f.ss && zei f.ts && zeh f.ss.length f.ts.length f.vs
structure FleetAt (w : World) (sa : Option Addr) (sl sc : Nat) (ta : Option Addr) (tl tc : Nat) (va : Option Addr) (vl vc : Nat) (f : zae) : Prop where
 s1 : sl = f.ss.length
 s2 : f.ss.length <= 2000000
 s3 : ∀ s ∈ f.ss,s.size <= maxLen
 s4 : StrsAt w sa f.ss
 t1 : tl = f.ts.length
 t2 : f.ts.length <= 2000000
 t3 : IntsAt w ta f.ts
 v1 : vl = f.vs.length
 v2 : f.vs.length <= 2000000
 v3 : SvcsAt (RelSl PinSl) w va f.vs
theorem FleetAt.keep {w w' : World} (hb : Below w.heap.size w w') {sa ta va : Option Addr} {sl sc tl tc vl vc : Nat} {f : zae} (h : FleetAt w sa sl sc ta tl tc va vl vc f) : FleetAt w' sa sl sc ta tl tc va vl vc f :=
 ⟨h.s1,h.s2,h.s3,h.s4.keep hb,h.t1,h.t2,h.t3.keep hb,h.v1,h.v2,h.v3.keep (fun _ _ _ _ h => RelSl.keepP hb h) hb⟩
theorem zse (f : zae) (sa ta va : Option Addr) (sl sc tl tc vl vc : Nat) (w : World) (hf : FleetAt w sa sl sc ta tl tc va vl vc f) :
  Calls Tryz.prog 20 #[.agg #[.slice sa sl sc,.slice ta tl tc,.slice va vl vc]] w fun e w' => e = .returned (.bool (ordB f)) /\ Below w.heap.size w w':=by
 have c1:=fun (W : World) (h : Below w.heap.size w W) => zyk f.ss W sa sc hf.s2 hf.s3 (hf.s4.keep h)
 have c2:=fun (W : World) (h : Below w.heap.size w W) => yaae f.ts W ta tc hf.t2 (hf.t3.keep h)
 have c3:=fun (W : World) (h : Below w.heap.size w W) => zy4 sl tl f.vs sa ta va sc tc vl vc (by have:=hf.s1;have:=hf.s2;omega) (by have:=hf.t1;have:=hf.t2;omega) W hf.v1 hf.v2 (hf.v3.keep (fun _ _ _ _ h' => RelSl.keepP h h') h)
 rw [<- hf.s1] at c1
 rw [<- hf.t1] at c2
 have hr : Hid (ordB f = (zc5 f.ss && zei f.ts && zeh sl tl f.vs)):=by show _ = _;unfold ordB;rw [hf.s1,hf.t1]
 obtain ⟨R,hR⟩ : ∃ R,R = ordB f:=⟨_,rfl⟩
 rw [<- hR] at hr ⊢
 generalize zc5 f.ss = x1 at c1 hr
 generalize zei f.ts = x2 at c2 hr
 generalize zeh sl tl f.vs = x3 at c3 hr
 have e0:=box3 w (.slice sa sl sc) (.slice ta tl tc) (.slice va vl vc) 26
 clear hf hR
 cases x1 with
 | false =>
  have hR1 : R = false:=hr.out
  clear hr c2 c3
  subst hR1
  go_enter Tryz.func20,Tryz.ntmps20
  go_wp2_with (go_at_call 42;refine (c1 _ (bel1 _ _)).mono ?_;rintro e w1 ⟨rfl,hb1⟩;have e1:=zak hb1 e0)
  go_ret
  exact ⟨rfl,thn3 (bel1 _ _) hb1⟩
 | true =>
  cases x2 with
  | false =>
   have hR1 : R = false:=hr.out
   clear hr c3
   subst hR1
   go_enter Tryz.func20,Tryz.ntmps20
   go_wp2_with (first | (go_at_call 42;refine (c1 _ (bel1 _ _)).mono ?_;rintro e w1 ⟨rfl,hb1⟩;have e1:=zak hb1 e0) | (go_at_call 43;refine (c2 _ (thn3 (bel1 _ _) hb1)).mono ?_;rintro e w2 ⟨rfl,hb2⟩;have e2:=zak hb2 e1))
   go_ret
   exact ⟨rfl,thn3 (thn3 (bel1 _ _) hb1) hb2⟩
  | true =>
   have hR1 : R = x3:=hr.out
   clear hr
   subst hR1
   cases R <;> (
    go_enter Tryz.func20,Tryz.ntmps20
    go_wp2_with (first | (go_at_call 42;refine (c1 _ (bel1 _ _)).mono ?_;rintro e w1 ⟨rfl,hb1⟩;have e1:=zak hb1 e0) | (go_at_call 43;refine (c2 _ (thn3 (bel1 _ _) hb1)).mono ?_;rintro e w2 ⟨rfl,hb2⟩;have e2:=zak hb2 e1) | (go_at_call 44;refine (c3 _ (thn3 (thn3 (bel1 _ _) hb1) hb2)).mono ?_;rintro e w3 ⟨rfl,hb3⟩))
    go_ret
    exact ⟨rfl,thn3 (thn3 (thn3 (bel1 _ _) hb1) hb2) hb3⟩)
end
end Go.Proofs.YtkkekopomiehlaaGreat
