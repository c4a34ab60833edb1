import Derived.Test.YtkkekopomiehlabHSf2
import Derived.Lib.SlBuf
import Derived.Laws.CopyOwn
import Derived.Laws.CopyRow
import Derived.Laws.MakeOwn
import Derived.Laws.OwnMore
set_option linter.unusedVariables false
set_option linter.unusedSimpArgs false
set_option maxHeartbeats 40000000
set_option maxRecDepth 4000
namespace Go.Proofs.Ytkkekopomiehlab
section
open Go.RowKit
open Go.Lib (below_setCells)
def plI (s r : Int) : Int:=if numB s 3 && numB r 3 then s * 3 + r else -1
theorem zfj (s r : Int) (w : World) : Calls Try.prog 37 #[.int .i64 s,.int .i64 r] w fun e W => e = .returned (.int .i64 (plI s r)) /\ Below w.heap.size w W:=by
 have n1:=fun w => zbj s 3 w
 have n2:=fun w => zbj r 3 w
 obtain ⟨R,hR⟩ : ∃ R,R = plI s r:=⟨_,rfl⟩
 rw [<- hR]
 unfold plI at hR
 by_cases h1 : 0 <= s /\ s < 3
 ·have e1 : numB s 3 = true:=by unfold numB;simp;omega
  rw [e1] at n1 hR
  by_cases h2 : 0 <= r /\ r < 3
  ·have e2 : numB r 3 = true:=by unfold numB;simp;omega
   rw [e2] at n2 hR
   obtain ⟨a1,a2⟩:=h1
   obtain ⟨b1,b2⟩:=h2
   have hR1 : R = s * 3 + r:=hR
   clear hR e1 e2
   subst hR1
   go_enter Try.func37,Try.ntmps37
   go_wp2_with (first | (go_at_call 54;have hq:=m1;refine (n2 _).mono ?_;rintro e _ ⟨rfl,rfl⟩;have m2 : True:=trivial) | (go_at_call 54;refine (n1 _).mono ?_;rintro e _ ⟨rfl,rfl⟩;have m1 : True:=trivial))
   go_ret
   exact ⟨by go_num,Below.refl _ _⟩
  ·have e2 : numB r 3 = false:=by unfold numB;simp;omega
   rw [e2] at n2 hR
   have hR1 : R = -1:=hR
   clear hR h1 h2 e1 e2
   subst hR1
   go_enter Try.func37,Try.ntmps37
   go_wp2_with (first | (go_at_call 54;have hq:=m1;refine (n2 _).mono ?_;rintro e _ ⟨rfl,rfl⟩;have m2 : True:=trivial) | (go_at_call 54;refine (n1 _).mono ?_;rintro e _ ⟨rfl,rfl⟩;have m1 : True:=trivial))
   go_ret
   exact ⟨rfl,Below.refl _ _⟩
 ·have e1 : numB s 3 = false:=by unfold numB;simp;omega
  rw [e1] at n1 hR
  have hR1 : R = -1:=hR
  clear hR h1 e1
  subst hR1
  go_enter Try.func37,Try.ntmps37
  go_wp2_with (go_at_call 54;refine (n1 _).mono ?_;rintro e _ ⟨rfl,rfl⟩)
  go_ret
  exact ⟨rfl,Below.refl _ _⟩
theorem zfr (p : Nat) (hp : p < 9) (w : World) : Calls Try.prog 56 #[.int .i64 p] w fun e W => e = .returned (.agg #[.int .i64 ((p / 3 : Nat) : Int),.int .i64 ((p % 3 : Nat) : Int)]) /\ Below w.heap.size w W:=by
 have h1 : (p : Int).tdiv 3 = ((p / 3 : Nat) : Int):=by rw [Int.tdiv_eq_ediv_of_nonneg (by omega)];omega
 have h2 : (p : Int).tmod 3 = ((p % 3 : Nat) : Int):=by rw [Int.tmod_eq_emod_of_nonneg (by omega)];omega
 have h3 : (p / 3 : Nat) < 3:=by omega
 have h4 : (p % 3 : Nat) < 3:=by omega
 generalize (p / 3 : Nat) = a at h1 h3
 generalize (p % 3 : Nat) = b at h2 h4
 go_enter Try.func56,Try.ntmps56
 go_wp2_with fail
 exact bodyPost_ret (v:=.agg #[.int .i64 a,.int .i64 b]) (by simp [results,Try.results56,go_sem]) rfl ⟨rfl,belS _ _⟩
def aftD (s : SiD) (p : Nat) : SiD:=⟨((List.range 9).map fun i => if i / 3 = p / 3 then false else s.has.getD i false).set p true,s.had.set p true⟩
theorem zgp {s : SiD} (h : s.ok) (p : Nat) : (aftD s p).ok:=⟨by simp [aftD],by simp [aftD,h.2]⟩
theorem Try.infoSit : (Try.prog.info? 91).map (·.size) = some 18:=by kernel_rfl
theorem SiD.ok.len {s : SiD} (h : s.ok) : s.cells.length = 18:=by simp [SiD.cells,h.1,h.2]
theorem zbh {w : World} {b : Nat} {t : TypeId} {cs : Array Value} (h : w.heap[b]? = some (.cells cs t (0,0))) : w.there b 0 cs.size:=fun j hj => by
 rw [Nat.zero_add]
 refine ⟨?_,?_⟩
 ·simp only [World.cell?,h];simp [hj]
 ·simp [World.frozen?,h]
theorem zb6 (l : List Bool) : ((l.map Value.bool).toArray).all (·.oneCell') = true:=by
 simp only [List.all_toArray,List.all_map]
 rw [List.all_eq_true]
 intro b _
 rfl
theorem zki (s : SiD) (p : Int) (hp : ¬ (0 <= p /\ p < 9)) (hs : s.ok) (w : World) : Calls Try.prog 42 #[.agg s.cells.toArray,.int .i64 p] w fun e W => e = .returned (.agg s.cells.toArray) /\ Below w.heap.size w W:=by
 have hnum:=fun w => zbj p 9 w
 rw [show numB p 9 = false by unfold numB;simp;omega] at hnum
 have hr:=zae (belS _ (.cells #[.bool false,.bool false,.bool false,.bool false,.bool false,.bool false,.bool false,.bool false,.bool false,.bool false,.bool false,.bool false,.bool false,.bool false,.bool false,.bool false,.bool false,.bool false] 91)) (za0 (zan w (.cells s.cells.toArray 91)))
 have ht:=zbh (zan (w.alloc (.cells s.cells.toArray 91)) (.cells #[.bool false,.bool false,.bool false,.bool false,.bool false,.bool false,.bool false,.bool false,.bool false,.bool false,.bool false,.bool false,.bool false,.bool false,.bool false,.bool false,.bool false,.bool false] 91))
 rw [show (w.alloc (.cells s.cells.toArray 91)).heap.size = w.heap.size + 1 by simp] at ht
 have hB:=(belS w (.cells s.cells.toArray 91)).alloc (by simp) (.cells #[.bool false,.bool false,.bool false,.bool false,.bool false,.bool false,.bool false,.bool false,.bool false,.bool false,.bool false,.bool false,.bool false,.bool false,.bool false,.bool false,.bool false,.bool false] 91)
 have hl:=hs.len
 have hi : (Try.prog.info? 91).map (·.size) = some s.cells.length:=by rw [hl];exact Try.infoSit
 have hi2 : (Try.prog.info? 91).map (·.size) = some s.cells.toArray.size:=by rw [List.size_toArray];exact hi
 have ht2 : ((w.alloc (.cells s.cells.toArray 91)).alloc (.cells #[.bool false,.bool false,.bool false,.bool false,.bool false,.bool false,.bool false,.bool false,.bool false,.bool false,.bool false,.bool false,.bool false,.bool false,.bool false,.bool false,.bool false,.bool false] 91)).there (w.heap.size + 1) 0 s.cells.toArray.size:=by rw [show s.cells.toArray.size = 18 by simpa using hl];exact ht
 have h1 : s.cells.toArray.all (·.oneCell') = true:=zb6 _
 clear ht hl
 go_enter Try.func42,Try.ntmps42
 go_wp2_with (first
  | (refine wpList_load_mid (w:=(w.alloc (.cells s.cells.toArray 91)).alloc (.cells #[.bool false,.bool false,.bool false,.bool false,.bool false,.bool false,.bool false,.bool false,.bool false,.bool false,.bool false,.bool false,.bool false,.bool false,.bool false,.bool false,.bool false,.bool false] 91)) rfl 91 _ rfl _ _ rfl s.cells _ hr Try.underlying91 rfl hi ?_)
  | (refine wpList_store_mid (w:=(w.alloc (.cells s.cells.toArray 91)).alloc (.cells #[.bool false,.bool false,.bool false,.bool false,.bool false,.bool false,.bool false,.bool false,.bool false,.bool false,.bool false,.bool false,.bool false,.bool false,.bool false,.bool false,.bool false,.bool false] 91)) rfl 91 _ _ rfl (w.heap.size + 1) 0 s.cells.toArray rfl rfl ht2 hi2 h1 ?_)
  | (go_at_call 54;refine (hnum _).mono ?_;rintro e _ ⟨rfl,rfl⟩))
 have hrs:=World.rangeAt_setCells_same ((w.alloc (.cells s.cells.toArray 91)).alloc (.cells #[.bool false,.bool false,.bool false,.bool false,.bool false,.bool false,.bool false,.bool false,.bool false,.bool false,.bool false,.bool false,.bool false,.bool false,.bool false,.bool false,.bool false,.bool false] 91)) (w.heap.size + 1) 0 s.cells (by simpa using ht2)
 refine bodyPost_ret (v:=.agg s.cells.toArray) ?_ rfl ⟨rfl,below_setCells (w.heap.size + 1) (Nat.le_succ _) _ _ hB⟩
 have hlv:=run_loadVar_mid (P:=Try.prog) _ (w.heap.size + 1) 0 91 s.cells _ hrs Try.underlying91 rfl hi
 simp [results,Try.results42,asAddr,Act.put,hlv]
end
section
open Go.RowKit
def svcB (ns nt : Nat) (v : SvcD) : Bool:=decide (1 <= v.size) && decide (v.size <= 3) && decide (1 <= v.rels.length) && decide (v.rels.length <= 3) && numB v.now v.rels.length && numB v.want v.rels.length && v.rels.all (zbn ns nt)
theorem zd7 {α : Type} {l : List α} {x : Nat} {p : α} (f : α -> Bool) (h : l[x]? = some p) : (l.take (x + 1)).all f = ((l.take x).all f && f p):=by
 rw [List.take_add_one,h,List.all_append];simp
theorem zd6 {α : Type} {l : List α} {x : Nat} {p : α} {f : α -> Bool} (h : l[x]? = some p) (hp : f p = false) : l.all f = false:=by
 cases hc : l.all f with
 | false => rfl
 | true => rw [List.all_eq_true] at hc;rw [hc p (List.mem_of_getElem? h)] at hp;cases hp
theorem zn6 (ns nt : Nat) (v : SvcD) (sa ta va : Option Addr) (sc tc vl vc : Nat) (hns : ns <= 2000000) (hnt : nt <= 2000000) (w : World) (ra : Option Addr) (rl rc : Nat) (hp : RelSl PinSl w ra rl rc v.rels) :
  Calls Try.prog 53 #[.agg #[.slice sa ns sc,.slice ta nt tc,.slice va vl vc],.agg #[.int .i64 v.size,.int .i64 v.now,.int .i64 v.want,.slice ra rl rc]] w fun e w' => e = .returned (.bool (svcB ns nt v)) /\ Below w.heap.size w w':=by
 obtain ⟨sz,nw,wn,rels⟩:=v
 simp only at hp ⊢
 obtain ⟨rfl,hl,hlc,hc9,hp⟩:=hp
 obtain ⟨R,hR⟩ : ∃ R,R = svcB ns nt ⟨sz,nw,wn,rels⟩:=⟨_,rfl⟩
 rw [<- hR]
 unfold svcB at hR
 simp only at hR
 by_cases h1 : 1 <= sz /\ sz <= 3 /\ 1 <= rels.length /\ rels.length <= 3
 ·obtain ⟨g1,g2,g3,g4⟩:=h1
  rw [decide_eq_true g1,decide_eq_true g2,decide_eq_true g3,decide_eq_true g4] at hR
  have n1:=fun w => zbj nw rels.length w
  have n2:=fun w => zbj wn rels.length w
  generalize numB nw rels.length = b1 at hR n1
  generalize numB wn rels.length = b2 at hR n2
  have hbx : Below w.heap.size w ((w.alloc (.cells #[.slice sa ns sc,.slice ta nt tc,.slice va vl vc] 26)).alloc (.cells #[.int .i64 sz,.int .i64 nw,.int .i64 wn,.slice ra rels.length rc] 60)):=thn3 (bel1 _ _) (bel1 _ _)
  cases b1 with
  | false =>
   have hR1 : R = false:=hR
   clear hR
   subst hR1
   go_enter Try.func53,Try.ntmps53
   go_wp2_with (go_at_call 54;refine (n1 _).mono ?_;rintro e _ ⟨rfl,rfl⟩;have m1 : True:=trivial)
   go_ret
   exact ⟨rfl,hbx⟩
  | true =>
   cases b2 with
   | false =>
    have hR1 : R = false:=hR
    clear hR
    subst hR1
    go_enter Try.func53,Try.ntmps53
    go_wp2_with (first | (go_at_call 54;have hq:=m1;refine (n2 _).mono ?_;rintro e _ ⟨rfl,rfl⟩;have m2 : True:=trivial) | (go_at_call 54;refine (n1 _).mono ?_;rintro e _ ⟨rfl,rfl⟩;have m1 : True:=trivial))
    go_ret
    exact ⟨rfl,hbx⟩
   | true =>
    simp only [Bool.true_and] at hR
    have HR : Hid (R = rels.all (zbn ns nt)):=hR
    clear hR
    go_enter Try.func53,Try.ntmps53
    go_wp2_with (first | (go_at_call 54;have hq:=m1;refine (n2 _).mono ?_;rintro e _ ⟨rfl,rfl⟩;have m2 : True:=trivial) | (go_at_call 54;refine (n1 _).mono ?_;rintro e _ ⟨rfl,rfl⟩;have m1 : True:=trivial))
    go_loopw [42] (fun vi wr => ∃ i : Nat,i <= rels.length /\ vi = .int .i64 i /\ Hid ((rels.take i).all (zbn ns nt) = true) /\ Below ((w.alloc (.cells #[.slice sa ns sc,.slice ta nt tc,.slice va vl vc] 26)).alloc (.cells #[.int .i64 sz,.int .i64 nw,.int .i64 wn,.slice ra rels.length rc] 60)).heap.size ((w.alloc (.cells #[.slice sa ns sc,.slice ta nt tc,.slice va vl vc] 26)).alloc (.cells #[.int .i64 sz,.int .i64 nw,.int .i64 wn,.slice ra rels.length rc] 60)) wr) (fun i _ => rels.length - (intOf i).toNat)
    case atStart => exact ⟨0,Nat.zero_le _,rfl,(by show _ = _;rfl),Below.refl _ _⟩
    case round =>
     obtain ⟨i,hi,rfl,hn,hb⟩:=hrel
     have hbw:=thn3 hbx hb
     by_cases hlt : i < rels.length
     ·obtain ⟨ps,hpi⟩ : ∃ ps,rels[i]? = some ps:=⟨rels[i],List.getElem?_eq_getElem hlt⟩
      obtain ⟨b,o,pa,pl,pc,rfl,c0,hps⟩:=hp i ps hpi
      have c0:=zaa hbw c0
      have hbl:=zaj c0
      obtain ⟨f0,f1,f2⟩:=zag hb (new3 _ (box3 w _ _ _ _))
      have hfl : w.heap.size < wr.heap.size:=zaj f0
      have hcall:=fun (W : World) (h : Below wr.heap.size wr W) => zno ns nt ps sa ta va sc tc vl vc hns hnt W pa pl pc (hps.keep (thn3 hbw h))
      have hsn:=zd7 (zbn ns nt) hpi
      have hno : zbn ns nt ps = false -> R = false:=fun h => by rw [HR.out];exact zd6 hpi h
      rw [hn.out,Bool.true_and] at hsn
      generalize zbn ns nt ps = x at hcall hsn hno
      have hx0 := znn i
      have hx1 : (i : Int) < (rels.length : Int):=by omega
      clear hpi hps hn HR hp
      cases x with
      | false =>
       have hR1:=hno rfl
       clear hno hsn
       subst hR1
       go_wp2_with (go_at_call 64;refine (hcall _ (bel1 _ _)).mono ?_;rintro e w3 ⟨rfl,hb3⟩)
       go_ret
       exact ⟨rfl,thn3 (thn3 hbw (bel1 _ _)) hb3⟩
      | true =>
       have hy : Hid ((rels.take (i + 1)).all (zbn ns nt) = true):=hsn
       clear hno hsn
       go_wp2_with (go_at_call 64;refine (hcall _ (bel1 _ _)).mono ?_;rintro e w3 ⟨rfl,hb3⟩)
       go_roundw
       case rel => exact ⟨i + 1,by omega,by go_num,hy,thn3 (thn3 hb (bel1 _ _)) hb3⟩
       case measure => simp [intOf];omega
     ·have hR1 : R = true:=by rw [HR.out,<- hn.out,List.take_of_length_le (by omega)]
      clear HR hn
      subst hR1
      go_wp2_with fail
      go_ret
      exact ⟨rfl,hbw⟩
 ·have hR1 : R = false:=by
   rw [hR]
   by_cases g1 : 1 <= sz
   ·by_cases g2 : sz <= 3
    ·by_cases g3 : 1 <= rels.length
     ·rw [decide_eq_false (show ¬ rels.length <= 3 by omega)];simp
     ·rw [decide_eq_false g3];simp
    ·rw [decide_eq_false g2];simp
   ·rw [decide_eq_false g1];simp
  clear hR
  subst hR1
  by_cases g1 : 1 <= sz
  ·by_cases g2 : sz <= 3
   ·by_cases g3 : 1 <= rels.length
    ·have g4 : 3 < rels.length:=by omega
     clear h1
     go_enter Try.func53,Try.ntmps53
     go_wp2_with fail
     go_ret
     exact ⟨rfl,thn3 (bel1 _ _) (bel1 _ _)⟩
    ·have g4 : rels.length = 0:=by omega
     clear h1 g3
     go_enter Try.func53,Try.ntmps53
     go_wp2_with fail
     go_ret
     exact ⟨rfl,thn3 (bel1 _ _) (bel1 _ _)⟩
   ·clear h1
    go_enter Try.func53,Try.ntmps53
    go_wp2_with fail
    go_ret
    exact ⟨rfl,thn3 (bel1 _ _) (bel1 _ _)⟩
  ·clear h1
   go_enter Try.func53,Try.ntmps53
   go_wp2_with fail
   go_ret
   exact ⟨rfl,thn3 (bel1 _ _) (bel1 _ _)⟩
end
section
open Go.RowKit
def zcn (ns nt : Nat) (vs : List SvcD) : Bool:=decide (1 <= vs.length) && decide (vs.length <= 3) && vs.all (svcB ns nt)
theorem RelSl.keepP {w w' : World} (hb : Below w.heap.size w w') {a : Option Addr} {l c : Nat} {rs : List (List PinD)} (h : RelSl PinSl w a l c rs) : RelSl PinSl w' a l c rs:=h.keep (fun _ _ _ _ h => h.keep hb) hb
theorem zn7 (ns nt : Nat) (vs : List SvcD) (sa ta va : Option Addr) (sc tc vl vc : Nat) (hns : ns <= 2000000) (hnt : nt <= 2000000) (w : World) (hvl : vl = vs.length) (hvs : vs.length <= 2000000) (hp : SvcsAt (RelSl PinSl) w va vs) :
  Calls Try.prog 36 #[.agg #[.slice sa ns sc,.slice ta nt tc,.slice va vl vc]] w fun e w' => e = .returned (.bool (zcn ns nt vs)) /\ Below w.heap.size w w':=by
 obtain ⟨R,hR⟩ : ∃ R,R = zcn ns nt vs:=⟨_,rfl⟩
 rw [<- hR]
 unfold zcn at hR
 subst hvl
 by_cases h1 : 1 <= vs.length
 ·by_cases h2 : vs.length <= 3
  ·rw [decide_eq_true h1,decide_eq_true h2] at hR
   simp only [Bool.true_and] at hR
   have HR : Hid (R = vs.all (svcB ns nt)):=hR
   clear hR
   go_enter Try.func36,Try.ntmps36
   go_wp2_with fail
   go_loopw [18] (fun vi wr => ∃ i : Nat,i <= vs.length /\ vi = .int .i64 i /\ Hid ((vs.take i).all (svcB ns nt) = true) /\ Below (w.alloc (.cells #[.slice sa ns sc,.slice ta nt tc,.slice va vs.length vc] 26)).heap.size (w.alloc (.cells #[.slice sa ns sc,.slice ta nt tc,.slice va vs.length vc] 26)) wr) (fun i _ => vs.length - (intOf i).toNat)
   case atStart => exact ⟨0,Nat.zero_le _,rfl,(by show _ = _;rfl),Below.refl _ _⟩
   case round =>
    obtain ⟨i,hi,rfl,hn,hb⟩:=hrel
    have hbw:=thn3 (bel1 _ _) hb
    by_cases hlt : i < vs.length
    ·obtain ⟨v,hvi⟩ : ∃ v,vs[i]? = some v:=⟨vs[i],List.getElem?_eq_getElem hlt⟩
     obtain ⟨b,o,ra,rl,rc,rfl,c0,c1,c2,c3,hrs⟩:=hp i v hvi
     have c0:=zaa hbw c0
     have c1:=zaa hbw c1
     have c2:=zaa hbw c2
     have c3:=zaa hbw c3
     have hbl:=zaj c0
     obtain ⟨f0,f1,f2⟩:=zag hb (box3 w _ _ _ _)
     have hfl : w.heap.size < wr.heap.size:=zaj f0
     have hcall:=fun (W : World) (h : Below wr.heap.size wr W) => zn6 ns nt v sa ta (some ⟨b,o,none⟩) sc tc vs.length vc hns hnt W ra rl rc (RelSl.keepP (thn3 hbw h) hrs)
     have hsn:=zd7 (svcB ns nt) hvi
     have hno : svcB ns nt v = false -> R = false:=fun h => by rw [HR.out];exact zd6 hvi h
     rw [hn.out,Bool.true_and] at hsn
     generalize svcB ns nt v = x at hcall hsn hno
     have hx0 := znn i
     have hx1 : (i : Int) < (vs.length : Int):=by omega
     obtain ⟨sz,nw,wn,rels⟩:=v
     simp only at c0 c1 c2 c3 hcall
     clear hvi hrs hn HR hp
     cases x with
     | false =>
      have hR1:=hno rfl
      clear hno hsn
      subst hR1
      go_wp2_with (go_at_call 53;refine (hcall _ (bel1 _ _)).mono ?_;rintro e w3 ⟨rfl,hb3⟩)
      go_ret
      exact ⟨rfl,thn3 (thn3 hbw (bel1 _ _)) hb3⟩
     | true =>
      have hy : Hid ((vs.take (i + 1)).all (svcB ns nt) = true):=hsn
      clear hno hsn
      go_wp2_with (go_at_call 53;refine (hcall _ (bel1 _ _)).mono ?_;rintro e w3 ⟨rfl,hb3⟩)
      go_roundw
      case rel => exact ⟨i + 1,by omega,by go_num,hy,thn3 (thn3 hb (bel1 _ _)) hb3⟩
      case measure => simp [intOf];omega
    ·have hR1 : R = true:=by rw [HR.out,<- hn.out,List.take_of_length_le (by omega)]
     clear HR hn
     subst hR1
     go_wp2_with fail
     go_ret
     exact ⟨rfl,hbw⟩
  ·have hR1 : R = false:=by rw [hR,decide_eq_false h2];simp
   clear hR
   subst hR1
   go_enter Try.func36,Try.ntmps36
   go_wp2_with fail
   go_ret
   exact ⟨rfl,bel1 _ _⟩
 ·have hR1 : R = false:=by rw [hR,decide_eq_false h1];simp
  have h0 : vs.length = 0:=by omega
  clear hR h1
  subst hR1
  go_enter Try.func36,Try.ntmps36
  go_wp2_with fail
  go_ret
  exact ⟨rfl,bel1 _ _⟩
def topB (k : Int) : Bool:=decide (0 <= k) && decide (k <= 6)
def zcp (ts : List Int) : Bool:=decide (ts.length <= 4) && ts.all topB
theorem zo4 (ts : List Int) (w : World) (a : Option Addr) (cap : Nat) (hl : ts.length <= 2000000) (hp : IntsAt w a ts) :
  Calls Try.prog 35 #[.slice a ts.length cap] w fun e w' => e = .returned (.bool (zcp ts)) /\ Below w.heap.size w w':=by
 obtain ⟨R,hR⟩ : ∃ R,R = zcp ts:=⟨_,rfl⟩
 rw [<- hR]
 unfold zcp at hR
 by_cases h2 : ts.length <= 4
 ·rw [decide_eq_true h2] at hR
  simp only [Bool.true_and] at hR
  have HR : Hid (R = ts.all topB):=hR
  clear hR
  go_enter Try.func35,Try.ntmps35
  go_wp2_with fail
  go_loopw [10] (fun vi wr => ∃ i : Nat,i <= ts.length /\ vi = .int .i64 i /\ Hid ((ts.take i).all topB = true) /\ Below w.heap.size w wr) (fun i _ => ts.length - (intOf i).toNat)
  case atStart => exact ⟨0,Nat.zero_le _,rfl,(by show _ = _;rfl),Below.refl _ _⟩
  case round =>
   obtain ⟨i,hi,rfl,hn,hb⟩:=hrel
   by_cases hlt : i < ts.length
   ·obtain ⟨k,hki⟩ : ∃ k,ts[i]? = some k:=⟨ts[i],List.getElem?_eq_getElem hlt⟩
    obtain ⟨b,o,rfl,c0⟩:=hp i k hki
    have c0:=zaa hb c0
    have hbl:=zaj c0
    have hsn:=zd7 topB hki
    have hno : topB k = false -> R = false:=fun h => by rw [HR.out];exact zd6 hki h
    rw [hn.out,Bool.true_and] at hsn
    have hx0 := znn i
    have hx1 : (i : Int) < (ts.length : Int):=by omega
    clear hki hn HR hp
    by_cases hk : 0 <= k /\ k <= 6
    ·obtain ⟨k0,k6⟩:=hk
     have hy : Hid ((ts.take (i + 1)).all topB = true):=by show _ = _;rw [hsn];unfold topB;simp;omega
     clear hno hsn
     go_wp2_with fail
     go_roundw
     case rel => exact ⟨i + 1,by omega,by go_num,hy,thn3 hb (bel1 _ _)⟩
     case measure => simp [intOf];omega
    ·have hR1:=hno (by unfold topB;simp;omega)
     clear hno hsn
     subst hR1
     by_cases k0 : 0 <= k
     ·have k6 : 6 < k:=by omega
      clear hk
      go_wp2_with fail
      go_ret
      exact ⟨rfl,thn3 hb (bel1 _ _)⟩
     ·clear hk
      go_wp2_with fail
      go_ret
      exact ⟨rfl,thn3 hb (bel1 _ _)⟩
   ·have hR1 : R = true:=by rw [HR.out,<- hn.out,List.take_of_length_le (by omega)]
    clear HR hn
    subst hR1
    go_wp2_with fail
    go_ret
    exact ⟨rfl,hb⟩
 ·have hR1 : R = false:=by rw [hR,decide_eq_false h2];simp
  clear hR
  subst hR1
  go_enter Try.func35,Try.ntmps35
  go_wp2_with fail
  go_ret
  exact ⟨rfl,Below.refl _ _⟩
def schB (s : ByteArray) : Bool:=decide (s.size <= 60) && (pAll false s).isSome
def zb0 (ss : List ByteArray) : Bool:=decide (ss.length <= 8) && ss.all schB
theorem zkc (s : ByteArray) (hs : s.size <= maxLen) (w : World) : Calls Try.prog 52 #[.string s] w fun e w' => ∃ (k : Int) (l : ByteArray) (o : Bool) (ai af : Option Addr) (li ci lf cf : Nat),e = .returned (.tuple #[.agg #[.int .i64 k,.string l,.bool o,.slice ai li ci,.slice af lf cf],.bool (schB s)]) /\ Below w.heap.size w w':=by
 by_cases h : s.size <= 60
 ·refine (zgn h w).mono ?_
  rintro e w' ⟨h1,h2⟩
  unfold schB
  rw [decide_eq_true h]
  cases hx : pAll false s with
  | none => rw [hx] at h1;exact ⟨_,_,_,_,_,_,_,_,_,h1,h2⟩
  | some ty => rw [hx] at h1;obtain ⟨ai,li,ci,af,lf,cf,h1,_⟩:=h1;exact ⟨_,_,_,_,_,_,_,_,_,h1,h2⟩
 ·have hz : schB s = false:=by unfold schB;rw [decide_eq_false h];rfl
  rw [hz]
  clear hz
  unfold maxLen at hs
  go_enter Try.func52,Try.ntmps52
  go_wp2_with fail
  exact bodyPost_ret (v:=.tuple #[.agg #[.int .i64 0,.string ByteArray.empty,.bool false,.slice none 0 0,.slice none 0 0],.bool false]) (by simp [results,Try.results52,go_sem];rfl) rfl ⟨_,_,_,_,_,_,_,_,_,rfl,(Below.refl _ _).alloc (Nat.le_refl _) _⟩
theorem zn5 (ss : List ByteArray) (w : World) (a : Option Addr) (cap : Nat) (hl : ss.length <= 2000000) (hz : ∀ s ∈ ss,s.size <= maxLen) (hp : StrsAt w a ss) :
  Calls Try.prog 34 #[.slice a ss.length cap] w fun e w' => e = .returned (.bool (zb0 ss)) /\ Below w.heap.size w w':=by
 obtain ⟨R,hR⟩ : ∃ R,R = zb0 ss:=⟨_,rfl⟩
 rw [<- hR]
 unfold zb0 at hR
 by_cases h2 : ss.length <= 8
 ·rw [decide_eq_true h2] at hR
  simp only [Bool.true_and] at hR
  have HR : Hid (R = ss.all schB):=hR
  clear hR
  go_enter Try.func34,Try.ntmps34
  go_wp2_with fail
  go_loopw [12] (fun vi wr => ∃ i : Nat,i <= ss.length /\ vi = .int .i64 i /\ Hid ((ss.take i).all schB = true) /\ Below w.heap.size w wr) (fun i _ => ss.length - (intOf i).toNat)
  case atStart => exact ⟨0,Nat.zero_le _,rfl,(by show _ = _;rfl),Below.refl _ _⟩
  case round =>
   obtain ⟨i,hi,rfl,hn,hb⟩:=hrel
   by_cases hlt : i < ss.length
   ·obtain ⟨s,hsi⟩ : ∃ s,ss[i]? = some s:=⟨ss[i],List.getElem?_eq_getElem hlt⟩
    obtain ⟨b,o,rfl,c0⟩:=hp i s hsi
    have c0:=zaa hb c0
    have hbl:=zaj c0
    have hcall:=fun W => zkc s (hz s (List.mem_of_getElem? hsi)) W
    have hsn:=zd7 schB hsi
    have hno : schB s = false -> R = false:=fun h => by rw [HR.out];exact zd6 hsi h
    rw [hn.out,Bool.true_and] at hsn
    generalize schB s = x at hcall hsn hno
    have hx0 := znn i
    have hx1 : (i : Int) < (ss.length : Int):=by omega
    clear hsi hn HR hp hz
    cases x with
    | false =>
     have hR1:=hno rfl
     clear hno hsn
     subst hR1
     go_wp2_with (go_at_call 52;refine (hcall _).mono ?_;rintro e w3 ⟨k,l,op,ai,af,li,ci,lf,cf,rfl,hb3⟩)
     go_ret
     exact ⟨rfl,thn3 (thn3 hb hb3) (bel1 _ _)⟩
    | true =>
     have hy : Hid ((ss.take (i + 1)).all schB = true):=hsn
     clear hno hsn
     go_wp2_with (go_at_call 52;refine (hcall _).mono ?_;rintro e w3 ⟨k,l,op,ai,af,li,ci,lf,cf,rfl,hb3⟩)
     go_roundw
     case rel => exact ⟨i + 1,by omega,by go_num,hy,thn3 (thn3 hb hb3) (bel1 _ _)⟩
     case measure => simp [intOf];omega
   ·have hR1 : R = true:=by rw [HR.out,<- hn.out,List.take_of_length_le (by omega)]
    clear HR hn
    subst hR1
    go_wp2_with fail
    go_ret
    exact ⟨rfl,hb⟩
 ·have hR1 : R = false:=by rw [hR,decide_eq_false h2];simp
  clear hR
  subst hR1
  go_enter Try.func34,Try.ntmps34
  go_wp2_with fail
  go_ret
  exact ⟨rfl,Below.refl _ _⟩
end
section
open Go.RowKit
def ordB (f : zad) : Bool:=zb0 f.ss && zcp f.ts && zcn f.ss.length f.ts.length f.vs
structure FleetAt (w : World) (sa : Option Addr) (sl sc : Nat) (ta : Option Addr) (tl tc : Nat) (va : Option Addr) (vl vc : Nat) (f : zad) : Prop where
 s1 : sl = f.ss.length
 s2 : f.ss.length <= 2000000
 s3 : ∀ s ∈ f.ss,s.size <= maxLen
 s4 : StrsAt w sa f.ss
 t1 : tl = f.ts.length
 t2 : f.ts.length <= 2000000
 t3 : IntsAt w ta f.ts
 v1 : vl = f.vs.length
 v2 : f.vs.length <= 2000000
 v3 : SvcsAt (RelSl PinSl) w va f.vs
theorem FleetAt.keep {w w' : World} (hb : Below w.heap.size w w') {sa ta va : Option Addr} {sl sc tl tc vl vc : Nat} {f : zad} (h : FleetAt w sa sl sc ta tl tc va vl vc f) : FleetAt w' sa sl sc ta tl tc va vl vc f :=
 ⟨h.s1,h.s2,h.s3,h.s4.keep hb,h.t1,h.t2,h.t3.keep hb,h.v1,h.v2,h.v3.keep (fun _ _ _ _ h => RelSl.keepP hb h) hb⟩
theorem zgm (f : zad) (sa ta va : Option Addr) (sl sc tl tc vl vc : Nat) (w : World) (hf : FleetAt w sa sl sc ta tl tc va vl vc f) :
  Calls Try.prog 16 #[.agg #[.slice sa sl sc,.slice ta tl tc,.slice va vl vc]] w fun e w' => e = .returned (.bool (ordB f)) /\ Below w.heap.size w w':=by
 have c1:=fun (W : World) (h : Below w.heap.size w W) => zn5 f.ss W sa sc hf.s2 hf.s3 (hf.s4.keep h)
 have c2:=fun (W : World) (h : Below w.heap.size w W) => zo4 f.ts W ta tc hf.t2 (hf.t3.keep h)
 have c3:=fun (W : World) (h : Below w.heap.size w W) => zn7 sl tl f.vs sa ta va sc tc vl vc (by have:=hf.s1;have:=hf.s2;omega) (by have:=hf.t1;have:=hf.t2;omega) W hf.v1 hf.v2 (hf.v3.keep (fun _ _ _ _ h' => RelSl.keepP h h') h)
 rw [<- hf.s1] at c1
 rw [<- hf.t1] at c2
 have hr : Hid (ordB f = (zb0 f.ss && zcp f.ts && zcn sl tl f.vs)):=by show _ = _;unfold ordB;rw [hf.s1,hf.t1]
 obtain ⟨R,hR⟩ : ∃ R,R = ordB f:=⟨_,rfl⟩
 rw [<- hR] at hr ⊢
 generalize zb0 f.ss = x1 at c1 hr
 generalize zcp f.ts = x2 at c2 hr
 generalize zcn sl tl f.vs = x3 at c3 hr
 have e0:=box3 w (.slice sa sl sc) (.slice ta tl tc) (.slice va vl vc) 26
 clear hf hR
 cases x1 with
 | false =>
  have hR1 : R = false:=hr.out
  clear hr c2 c3
  subst hR1
  go_enter Try.func16,Try.ntmps16
  go_wp2_with (go_at_call 34;refine (c1 _ (bel1 _ _)).mono ?_;rintro e w1 ⟨rfl,hb1⟩;have e1:=zag hb1 e0)
  go_ret
  exact ⟨rfl,thn3 (bel1 _ _) hb1⟩
 | true =>
  cases x2 with
  | false =>
   have hR1 : R = false:=hr.out
   clear hr c3
   subst hR1
   go_enter Try.func16,Try.ntmps16
   go_wp2_with (first | (go_at_call 34;refine (c1 _ (bel1 _ _)).mono ?_;rintro e w1 ⟨rfl,hb1⟩;have e1:=zag hb1 e0) | (go_at_call 35;refine (c2 _ (thn3 (bel1 _ _) hb1)).mono ?_;rintro e w2 ⟨rfl,hb2⟩;have e2:=zag hb2 e1))
   go_ret
   exact ⟨rfl,thn3 (thn3 (bel1 _ _) hb1) hb2⟩
  | true =>
   have hR1 : R = x3:=hr.out
   clear hr
   subst hR1
   cases R <;> (
    go_enter Try.func16,Try.ntmps16
    go_wp2_with (first | (go_at_call 34;refine (c1 _ (bel1 _ _)).mono ?_;rintro e w1 ⟨rfl,hb1⟩;have e1:=zag hb1 e0) | (go_at_call 35;refine (c2 _ (thn3 (bel1 _ _) hb1)).mono ?_;rintro e w2 ⟨rfl,hb2⟩;have e2:=zag hb2 e1) | (go_at_call 36;refine (c3 _ (thn3 (thn3 (bel1 _ _) hb1) hb2)).mono ?_;rintro e w3 ⟨rfl,hb3⟩))
    go_ret
    exact ⟨rfl,thn3 (thn3 (thn3 (bel1 _ _) hb1) hb2) hb3⟩)
end
section
open Go.RowKit Go.Lib
theorem zab {p : Prop} (h : p) : Hid p:=h
def zd1 (w : World) (a : Option Addr) (cs : List Value) : Prop:=∀ (j : Nat) (v : Value),cs[j]? = some v -> ∃ b o,a = some ⟨b,o,none⟩ /\ w.cell? ⟨b,o + j,none⟩ = some v
def RowIs (w : World) (g : Nat) (t : TypeId) (cs : List Value) : Prop:=w.heap[g]? = some (.cells cs.toArray t (0,0))
theorem RowIs.cell {w : World} {g : Nat} {t : TypeId} {cs : List Value} (h : RowIs w g t cs) {j : Nat} {v : Value} (hj : cs[j]? = some v) : w.cell? ⟨g,j,none⟩ = some v:=by
 rw [cell_of_row w g j cs.toArray t (0,0) h];simpa using hj
theorem RowIs.frozen {w : World} {g : Nat} {t : TypeId} {cs : List Value} (h : RowIs w g t cs) (j : Nat) : w.frozen? ⟨g,j,none⟩ = false:=frozen_of_row w g j cs.toArray t h
theorem RowIs.keep {w w' : World} {g : Nat} {t : TypeId} {cs : List Value} (h : RowIs w g t cs) (hb : Below w.heap.size w w') : RowIs w' g t cs:=by
 have hg : g < w.heap.size:=by
  unfold RowIs at h
  rcases Nat.lt_or_ge g w.heap.size with hg | hg
  ·exact hg
  ·rw [Array.getElem?_eq_none (by omega)] at h;cases h
 unfold RowIs
 rw [<- h]
 exact hb.block g hg
theorem RowIs.lt {w : World} {g : Nat} {t : TypeId} {cs : List Value} (h : RowIs w g t cs) : g < w.heap.size:=by
 unfold RowIs at h
 rcases Nat.lt_or_ge g w.heap.size with hg | hg
 ·exact hg
 ·rw [Array.getElem?_eq_none (by omega)] at h;cases h
theorem RowIs.set {w : World} {g : Nat} {t : TypeId} {cs : List Value} (h : RowIs w g t cs) (j : Nat) (u : Value) : RowIs (w.setCell ⟨g,j,none⟩ u) g t (cs.set j u):=by
 have:=heap_setCell_same w g j cs.toArray t u h
 unfold RowIs
 rw [this]
 simp
theorem StrsAt.cells {w : World} {a : Option Addr} {ss : List ByteArray} (h : StrsAt w a ss) : zd1 w a (ss.map .string):=fun j v hj => by
 rw [List.getElem?_map] at hj
 obtain ⟨s,hs,rfl⟩:=Option.map_eq_some_iff.1 hj
 exact h j s hs
theorem IntsAt.cells {w : World} {a : Option Addr} {ns : List Int} (h : IntsAt w a ns) : zd1 w a (ns.map (.int .i64)):=fun j v hj => by
 rw [List.getElem?_map] at hj
 obtain ⟨s,hs,rfl⟩:=Option.map_eq_some_iff.1 hj
 exact h j s hs
def zks : ByteArray:=⟨#[98,101,121,111,110,100]⟩
end
end Go.Proofs.Ytkkekopomiehlab
