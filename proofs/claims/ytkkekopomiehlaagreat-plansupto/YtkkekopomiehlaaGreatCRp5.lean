import Derived.Test.YtkkekopomiehlaaGreatCRp4
set_option linter.unusedVariables false
set_option linter.unusedSimpArgs false
set_option maxHeartbeats 40000000
set_option maxRecDepth 4000
namespace Go.Proofs.YtkkekopomiehlaaGreat
section
open Go.RowKit
def befB (a b c d : Nat) : Bool:=decide (a < c) || (decide (a = c) && decide (b < d))
theorem zs2 {p q : Nat} : befB (p / 3) (p % 3) (q / 3) (q % 3) = decide (p < q):=by
 unfold befB
 rw [Bool.eq_iff_iff]
 simp only [Bool.or_eq_true,Bool.and_eq_true,decide_eq_true_eq]
 omega
theorem zs3 (a b c d : Nat) (w : World) : Calls Tryz.prog 65 #[.agg #[.int .i64 (a : Int),.int .i64 (b : Int)],.agg #[.int .i64 (c : Int),.int .i64 (d : Int)]] w fun e W => e = .returned (.bool (befB a b c d)) /\ Below w.heap.size w W:=by
 have hB : Below w.heap.size w ((w.alloc (.cells #[.int .i64 (a : Int),.int .i64 (b : Int)] 46)).alloc (.cells #[.int .i64 (c : Int),.int .i64 (d : Int)] 46)):=(belS w _).alloc (by simp) _
 unfold befB
 by_cases h1 : a < c
 ·have h1' : (a : Int) < (c : Int):=by omega
  rw [decide_eq_true h1,Bool.true_or]
  clear h1
  go_enter Tryz.func65,Tryz.ntmps65
  go_wp2_with fail
  go_ret
  exact ⟨rfl,hB⟩
 ·have h1' : ¬ (a : Int) < (c : Int):=by omega
  rw [decide_eq_false h1,Bool.false_or]
  by_cases h2 : a = c
  ·subst h2
   rw [decide_eq_true rfl,Bool.true_and]
   by_cases h3 : b < d
   ·have h3' : (b : Int) < (d : Int):=by omega
    rw [decide_eq_true h3]
    clear h1 h3
    go_enter Tryz.func65,Tryz.ntmps65
    go_wp2_with fail
    go_ret
    exact ⟨rfl,hB⟩
   ·have h3' : ¬ (b : Int) < (d : Int):=by omega
    rw [decide_eq_false h3]
    clear h1 h3
    go_enter Tryz.func65,Tryz.ntmps65
    go_wp2_with fail
    go_ret
    exact ⟨rfl,hB⟩
  ·have h2' : ¬ (a : Int) = (c : Int):=by omega
   rw [decide_eq_false h2,Bool.false_and]
   clear h1 h2
   go_enter Tryz.func65,Tryz.ntmps65
   go_wp2_with fail
   go_ret
   exact ⟨rfl,hB⟩
def EdAt (w : World) (a : Option Addr) (E : List (Nat × Nat × Nat)) : Prop:=∀ (k : Nat) (e : Nat × Nat × Nat),E[k]? = some e -> ∃ b,a = some ⟨b,0,none⟩ /\ w.cell? ⟨b,k * 4,none⟩ = some (.int .i64 (e.1 : Int)) /\ w.cell? ⟨b,k * 4 + 1,none⟩ = some (.int .i64 (e.2.1 : Int)) /\ w.cell? ⟨b,k * 4 + 2,none⟩ = some (.int .i64 ((e.2.2 / 3 : Nat) : Int)) /\ w.cell? ⟨b,k * 4 + 3,none⟩ = some (.int .i64 ((e.2.2 % 3 : Nat) : Int))
theorem EdAt.keep {w w' : World} (hb : Below w.heap.size w w') {a : Option Addr} {E : List (Nat × Nat × Nat)} (h : EdAt w a E) : EdAt w' a E:=fun k e he => by
 obtain ⟨b,h0,h1,h2,h3,h4⟩:=h k e he
 exact ⟨b,h0,zaa hb h1,zaa hb h2,zaa hb h3,zaa hb h4⟩
def FarAt (w : World) (g : Nat) (F : List Int) : Prop:=∀ (i : Nat) (x : Int),F[i]? = some x -> w.cell? ⟨g,i * 3 + 2,none⟩ = some (.int .i64 x)
theorem FarAt.keep {w w' : World} (hb : Below w.heap.size w w') {g : Nat} {F : List Int} (h : FarAt w g F) : FarAt w' g F:=fun i x hi => zaa hb (h i x hi)
theorem zv8 (E : List (Nat × Nat × Nat)) (F : List Int) (i : Nat) (hi : i < F.length) (hE : ∀ e ∈ E,e.1 < F.length /\ e.2.1 < F.length) (hEl : E.length <= 100000000) (hFl : F.length <= 1000000) (ea : Option Addr) (g gc ec : Nat) (w : World) (he : EdAt w ea E) (hf : FarAt w g F) :
  Calls Tryz.prog 39 #[.slice (some ⟨g,0,none⟩) F.length gc,.slice ea E.length ec,.int .i64 (i : Int)] w fun e W => e = .returned (.int .i64 (zbf E F i E.length)) /\ Below w.heap.size w W:=by
 obtain ⟨z,hz⟩ : ∃ z,F[i]? = some z:=⟨F[i],List.getElem?_eq_getElem hi⟩
 have HED:= zab he
 have HF:= zab hf
 have HE:= zab hE
 clear he hf hE
 go_enter Tryz.func39,Tryz.ntmps39
 go_wp2_with fail
 go_loopw [7,8] (fun vb vk wr => ∃ k : Nat,k <= E.length /\ vk = .int .i64 k /\ vb = .int .i64 (zbf E F i k) /\ Below w.heap.size w wr) (fun _ k _ => E.length - (intOf k).toNat)
 case atStart => exact ⟨0,Nat.zero_le _,rfl,rfl,Below.refl _ _⟩
 case round =>
  obtain ⟨k,hk,rfl,rfl,hb⟩:=hrel
  rename World => w5
  have hx0 := znn k
  by_cases hlt : k < E.length
  ·obtain ⟨⟨fr,to,p⟩,hke⟩ : ∃ e,E[k]? = some e:=⟨E[k],List.getElem?_eq_getElem hlt⟩
   obtain ⟨b,rfl,c0,c1,c2,c3⟩:=HED.out.keep hb k _ hke
   obtain ⟨hfr,hto⟩:=HE.out _ (List.mem_of_getElem? hke)
   simp only at c0 c1 c2 c3 hfr hto
   obtain ⟨y,hy⟩ : ∃ y,F[to]? = some y:=⟨F[to],List.getElem?_eq_getElem hto⟩
   have fy:=HF.out.keep hb to y hy
   have fz:=HF.out.keep hb i z hz
   have hx1 : (k : Int) < (E.length : Int):=by omega
   have hcn : cndB E F i k = (decide (fr = i) && (decide (0 <= y) && decide (y < z))):=by
    unfold cndB;rw [hke];simp only [zc1 hy,zc1 hz]
    rw [Bool.eq_iff_iff];simp
   have hst : zbf E F i (k + 1) = if cndB E F i k = true /\ (zbf E F i k < 0 \/ plE E k < plE E (zbf E F i k).toNat) then (k : Int) else zbf E F i k:=rfl
   have t0 := znn to
   have t1 : (to : Int) < (F.length : Int):=by omega
   have i0 := znn i
   have i1 : (i : Int) < (F.length : Int):=by omega
   by_cases hfi : fr = i
   ·subst hfi
    have hd1 : ((fr : Int) == (fr : Int)) = true:=by simp
    have hd2 : ((fr : Int) != (fr : Int)) = false:=by simp
    have hd3 : decide ((fr : Int) = (fr : Int)) = true:=by simp
    by_cases hy0 : y < 0
    ·have hno : zbf E F fr (k + 1) = zbf E F fr k:=by rw [hst,if_neg];rw [hcn];simp;omega
     have HNO:= zab hno
     have hd4 : decide (y < 0) = true:=by simpa using hy0
     generalize zbf E F fr k = bb at HNO
     clear hno hst hcn
     go_wp2_with fail
     go_quiet (fail)
     go_wp2_with fail
     go_roundw
     case rel => exact ⟨k + 1,by omega,by go_num,by rw [HNO.out],below_drewN hb _⟩
     case measure => simp [intOf];omega
    ·have hd4 : decide (y < 0) = false:=by simpa using hy0
     by_cases hyz : z <= y
     ·have hno : zbf E F fr (k + 1) = zbf E F fr k:=by rw [hst,if_neg];rw [hcn];simp;omega
      have HNO:= zab hno
      have hd5 : decide (z <= y) = true:=by simpa using hyz
      generalize zbf E F fr k = bb at HNO
      clear hno hst hcn
      go_wp2_with fail
      go_quiet (fail)
      go_wp2_with fail
      go_roundw
      case rel => exact ⟨k + 1,by omega,by go_num,by rw [HNO.out],below_drewN hb _⟩
      case measure => simp [intOf];omega
     ·have hd5 : decide (z <= y) = false:=by simpa using hyz
      have hc : cndB E F fr k = true:=by rw [hcn];simp;omega
      rw [hc] at hst
      rcases zkp E F fr k with ⟨hbn,_⟩ | ⟨bb,hbn,hbk,_,_⟩
      ·rw [hbn] at hst ⊢
       have hno : zbf E F fr (k + 1) = (k : Int):=by rw [hst,if_pos ⟨rfl,.inl (by omega)⟩]
       have HNO:= zab hno
       clear hno hst hcn hc hbn
       go_wp2_with fail
       go_quiet (fail)
       go_wp2_with fail
       go_quiet (fail)
       go_wp2_with fail
       go_roundw
       case rel => exact ⟨k + 1,by omega,by go_num,by rw [HNO.out],below_drewN hb _⟩
       case measure => simp [intOf];omega
      ·rw [hbn] at hst ⊢
       obtain ⟨⟨fr2,to2,p2⟩,hbe⟩ : ∃ e,E[bb]? = some e:=⟨E[bb]'(by omega),List.getElem?_eq_getElem (by omega)⟩
       obtain ⟨b',hbb,_,_,q2,q3⟩:=HED.out.keep hb bb _ hbe
       cases hbb
       simp only at q2 q3
       have hpk : plE E k = p:=by unfold plE;rw [hke]
       have hpb : plE E bb = p2:=by unfold plE;rw [hbe]
       rw [Int.toNat_natCast,hpk,hpb] at hst
       have hcall:=fun W => zs3 (p / 3) (p % 3) (p2 / 3) (p2 % 3) W
       rw [zs2] at hcall
       have hd6 : decide ((bb : Int) < 0) = false:=by simp
       have hd7 := znn bb
       have hd8 : (bb : Int) < (E.length : Int):=by omega
       have lb:=zaf c2
       by_cases hlt2 : p < p2
       ·rw [decide_eq_true hlt2] at hcall
        have hno : zbf E F fr (k + 1) = (k : Int):=by rw [hst,if_pos ⟨rfl,.inr hlt2⟩]
        have HNO:= zab hno
        clear hno hst hcn hc hbn hpk hpb hbe
        go_wp2_with fail
        go_quiet (fail)
        go_wp2_with fail
        go_region_held3 (fun w' => (w'.cell? ⟨b,k * 4 + 2,none⟩ = some (.int .i64 ((p / 3 : Nat) : Int)) /\ w'.cell? ⟨b,k * 4 + 3,none⟩ = some (.int .i64 ((p % 3 : Nat) : Int))) /\ w'.cell? ⟨b,bb * 4 + 2,none⟩ = some (.int .i64 ((p2 / 3 : Nat) : Int)) /\ w'.cell? ⟨b,bb * 4 + 3,none⟩ = some (.int .i64 ((p2 % 3 : Nat) : Int))) (go_keep) (first | (go_at_call 65;refine (hcall _).mono ?_;rintro e w6 ⟨rfl,hb6⟩;have v1:=zaa hb6 c2;have v2:=zaa hb6 c3;have v3:=zaa hb6 q2;have v4:=zaa hb6 q3))
        go_wp2_with fail
        go_roundw
        case rel => exact ⟨k + 1,by omega,by go_num,by rw [HNO.out],thn3 (below_drewN hb _).drew hb6⟩
        case measure => simp [intOf];omega
       ·rw [decide_eq_false hlt2] at hcall
        have hno : zbf E F fr (k + 1) = (bb : Int):=by rw [hst,if_neg (fun h => by rcases h.2 with h | h <;> omega)]
        have HNO:= zab hno
        clear hno hst hcn hc hbn hpk hpb hbe
        go_wp2_with fail
        go_quiet (fail)
        go_wp2_with fail
        go_region_held3 (fun w' => (w'.cell? ⟨b,k * 4 + 2,none⟩ = some (.int .i64 ((p / 3 : Nat) : Int)) /\ w'.cell? ⟨b,k * 4 + 3,none⟩ = some (.int .i64 ((p % 3 : Nat) : Int))) /\ w'.cell? ⟨b,bb * 4 + 2,none⟩ = some (.int .i64 ((p2 / 3 : Nat) : Int)) /\ w'.cell? ⟨b,bb * 4 + 3,none⟩ = some (.int .i64 ((p2 % 3 : Nat) : Int))) (go_keep) (first | (go_at_call 65;refine (hcall _).mono ?_;rintro e w6 ⟨rfl,hb6⟩;have v1:=zaa hb6 c2;have v2:=zaa hb6 c3;have v3:=zaa hb6 q2;have v4:=zaa hb6 q3))
        go_wp2_with fail
        go_roundw
        case rel => exact ⟨k + 1,by omega,by go_num,by rw [HNO.out],thn3 (below_drewN hb _).drew hb6⟩
        case measure => simp [intOf];omega
   ·have hno : zbf E F i (k + 1) = zbf E F i k:=by rw [hst,if_neg];rw [hcn];simp [hfi]
    have hd1 : ((fr : Int) == (i : Int)) = false:=by simp;omega
    have hd2 : ((fr : Int) != (i : Int)) = true:=by simp;omega
    have hd3 : decide ((fr : Int) = (i : Int)) = false:=by simp;omega
    have HNO:= zab hno
    generalize zbf E F i k = bb at HNO
    clear hno hst hcn
    go_wp2_with fail
    go_quiet (fail)
    go_wp2_with fail
    go_roundw
    case rel => exact ⟨k + 1,by omega,by go_num,by rw [HNO.out],below_drewN hb _⟩
    case measure => simp [intOf];omega
  ·obtain rfl : k = E.length:=by omega
   go_wp2_with fail
   go_ret
   exact ⟨rfl,hb⟩
end
section
open Go.RowKit
theorem zqq : ∀ {l : List SE} {i : Nat} {e : SE} (x : Int),l[i]? = some e -> sesC (l.set i { e with far:=x }) = (sesC l).set (i * 3 + 2) (.int .i64 x)
 | [],i,e,x,h => by simp at h
 | q :: l,0,e,x,h => by
  simp at h;subst h
  simp [sesC,seC]
 | q :: l,i + 1,e,x,h => by
  rw [List.getElem?_cons_succ] at h
  have ih:=zqq x h
  rw [List.set_cons_succ]
  show seC q ++ sesC (l.set i { e with far:=x }) = (seC q ++ sesC l).set ((i + 1) * 3 + 2) _
  rw [ih,show (i + 1) * 3 + 2 = (seC q).length + (i * 3 + 2) by simp [seC];omega,List.set_append_right _ _ (by omega),Nat.add_sub_cancel_left]
structure FL (l m : List SE) : Prop where
 len : m.length = l.length
 same : ∀ (i : Nat) (e : SE),l[i]? = some e -> ∃ x,m[i]? = some { e with far:=x }
theorem FL.refl (l : List SE) : FL l l:=⟨rfl,fun i e h => ⟨e.far,h⟩⟩
theorem FL.set {l m : List SE} (h : FL l m) {i : Nat} {e : SE} (hi : m[i]? = some e) (x : Int) : FL l (m.set i { e with far:=x }):=by
 refine ⟨by rw [List.length_set];exact h.len,fun j d hd => ?_⟩
 obtain ⟨y,hy⟩:=h.same j d hd
 by_cases hij : i = j
 ·subst hij
  rw [hi] at hy
  cases hy
  exact ⟨x,by rw [List.getElem?_set_self (List.getElem?_eq_some_iff.1 hi).1]⟩
 ·exact ⟨y,by rw [List.getElem?_set_ne hij];exact hy⟩
theorem zht {m : List SE} {i : Nat} {e : SE} (x : Int) : (m.set i { e with far:=x }).map SE.far = (m.map SE.far).set i x:=by rw [List.map_set]
theorem zhs {m : List SE} {i : Nat} {e : SE} (h : m[i]? = some e) : (m.map SE.far)[i]? = some e.far:=by rw [List.getElem?_map,h];rfl
def WantAt (w : World) (g : Nat) (va : Option Addr) (vs : List SvcD) : Prop:=∀ (s : Nat) (v : SvcD),vs[s]? = some v -> ∃ b o,va = some ⟨b,o,none⟩ /\ b ≠ g /\ w.cell? ⟨b,o + s * 4 + 2,none⟩ = some (.int .i64 v.want)
def wntB (vs : List SvcD) (now : List Nat) (s : Nat) : Bool:=(List.range s).all fun i => match vs[i]? with | some v => decide (((now.getD i 0 : Nat) : Int) = v.want) | none => true
theorem yabc {vs : List SvcD} {now : List Nat} {s y : Nat} {v : SvcD} (hv : vs[s]? = some v) (hy : now[s]? = some y) : wntB vs now (s + 1) = (wntB vs now s && decide ((y : Int) = v.want)):=by
 unfold wntB
 rw [zf5,hv]
 simp only [List.getD,hy];rfl
def gB (vs : List SvcD) (l : List SE) (i : Nat) : Bool:=match l[i]? with | some e => wntB vs e.now vs.length | none => false
structure Ms (base g cap : Nat) (w : World) (l : List SE) (wr : World) (m : List SE) : Prop where
 own : wr.ownsRow base 83 3 (.slice (some ⟨g,0,none⟩) l.length cap) l.length (sesC m)
 kept : KeptBut g w wr
 fl : FL l m
 bel : Below base w wr
theorem Ms.drewN {base g cap : Nat} {w wr : World} {l m : List SE} (h : Ms base g cap w l wr m) (n : Nat) : Ms base g cap w l (wr.drewN n) m:=by
 induction n with
 | zero => exact h
 | succ n ih => exact ⟨ih.own.drew,⟨ih.kept.size,ih.kept.block⟩,ih.fl,ih.bel.drew⟩
theorem Ms.store {base g cap : Nat} {w wr : World} {l m : List SE} {i : Nat} {e : SE} (h : Ms base g cap w l wr m) (hi : m[i]? = some e) (x : Int) : Ms base g cap w l (wr.setCell ⟨g,i * 3 + 2,none⟩ (.int .i64 x)) (m.set i { e with far:=x }) :=
 ⟨by rw [zqq x hi];exact (h.own.stored _ _).1,h.kept.set (.inl rfl) _,h.fl.set hi x,h.bel.setCell (h.own.lt g rfl).1 _⟩
theorem Ms.there {base g cap : Nat} {w wr : World} {l m : List SE} {i : Nat} {e : SE} (h : Ms base g cap w l wr m) (hi : m[i]? = some e) : wr.there g (i * 3 + 2) 1:=fun k hk => by
 obtain rfl : k = 0:=by omega
 rw [Nat.add_zero]
 exact ⟨by rw [(zeg (zc2 h.own) hi).2.2];rfl,h.own.frozenAt _⟩
theorem zvx (l : List SE) (n : Nat) (hn : l.length = n) (hn1 : n <= 1000000) (E : List (Nat × Nat × Nat)) (hE : ∀ e ∈ E,e.1 < n /\ e.2.1 < n) (hEl : E.length <= 100000000) (vs : List SvcD) (gv : Nat) (va : Option Addr) (vc base g cap : Nat) (ea : Option Addr) (ec : Nat) (w : World)
  (hv : w.cell? ⟨gv,2,none⟩ = some (.slice va vs.length vc)) (hgv : gv ≠ g) (hwa : WantAt w g va vs) (hvl : vs.length <= 3) (hl : ∀ e ∈ l,e.far = -1 /\ e.now.length = vs.length /\ e.a ≠ g /\ w.rangeAt e.a 0 (natC e.now))
  (hed : EdAt w ea E) (heg : ∀ b,ea = some ⟨b,0,none⟩ -> b ≠ g) (hown : w.ownsRow base 83 3 (.slice (some ⟨g,0,none⟩) l.length cap) l.length (sesC l)) :
  Calls Tryz.prog 38 #[.pointer (some ⟨gv,0,none⟩),.slice (some ⟨g,0,none⟩) l.length cap,.slice ea E.length ec] w fun e W => e = .returned (.tuple #[]) /\ ∃ m,Ms base g cap w l W m /\ zd7 E (gB vs l) n (m.map SE.far):=by
 have HED:= zab hed
 have HW:= zab hwa
 have HL:= zab hl
 have HE:= zab hE
 have HEG:= zab heg
 have HM0 : Hid (Ms base g cap w l w l):=⟨hown,KeptBut.refl g w,FL.refl l,Below.refl base w⟩
 have HN:= zab hn
 have hl2 : l.length <= 1000000:=by omega
 clear hed hwa hl hE heg hown hn
 go_enter Tryz.func38,Tryz.ntmps38
 go_wp2_with fail
 go_loopw [6] (fun vi wr => ∃ (i : Nat) (m : List SE),i <= l.length /\ vi = .int .i64 i /\ Hid (Ms base g cap w l wr m) /\ Hid (∀ (j : Nat) (e : SE),m[j]? = some e -> e.far = if j < i /\ wntB vs e.now vs.length = true then 0 else -1)) (fun i _ => l.length - (intOf i).toNat)
 case atStart =>
  refine ⟨0,l,Nat.zero_le _,rfl,HM0,fun j e he => ?_⟩
  rw [if_neg (fun h => by omega)];exact (HL.out e (List.mem_of_getElem? he)).1
 case round =>
  clear HM0
  obtain ⟨i,m,hi,rfl,HM,hfar⟩:=hrel
  rename World => w5
  have hx0 := znn i
  by_cases hlt : i < l.length
  ·obtain ⟨e,he⟩ : ∃ e,l[i]? = some e:=⟨l[i],List.getElem?_eq_getElem hlt⟩
   obtain ⟨x,hmx⟩:=HM.out.fl.same i e he
   have hx1 : (i : Int) < (l.length : Int):=by omega
   obtain ⟨_,hnl,hea,hra⟩:=HL.out e (List.mem_of_getElem? he)
   have HMX:= zab hmx
   have HHE:= zab he
   have HRA:= zab hra
   clear he hmx hra
   go_wp2_with fail
   go_loopw [7,8] (fun vt vs' wr => ∃ s : Nat,s <= vs.length /\ vs' = .int .i64 s /\ vt = .bool (wntB vs e.now s) /\ Hid (Ms base g cap w l wr m)) (fun _ s _ => vs.length - (intOf s).toNat)
   case atStart => exact ⟨0,Nat.zero_le _,rfl,rfl,HM⟩
   case round =>
    clear HM
    obtain ⟨s,hs,rfl,rfl,HM⟩:=hrel
    rename World => w6
    obtain ⟨c0,c1,c2⟩:=zeg (zc2 HM.out.own) HMX.out
    simp only at c0 c1 c2
    rw [hnl] at c0
    have d2:=HM.out.kept.cell hgv hv
    have hs0 := znn s
    by_cases hlt2 : s < vs.length
    ·obtain ⟨v,hv2⟩ : ∃ v,vs[s]? = some v:=⟨vs[s],List.getElem?_eq_getElem hlt2⟩
     obtain ⟨y,hy⟩ : ∃ y,e.now[s]? = some y:=⟨e.now[s]'(by omega),List.getElem?_eq_getElem _⟩
     obtain ⟨bv,ov,rfl,hbv,cv⟩:=HW.out s v hv2
     have cv:=HM.out.kept.cell hbv cv
     have cy:=HM.out.kept.cell hea (zec HRA.out hy)
     have hs1 : (s : Int) < (vs.length : Int):=by omega
     have hws:=yabc (now:=e.now) hv2 hy
     have HWS:= zab hws
     generalize wntB vs e.now s = tt at HWS
     clear hws hv2 hy c1 c2
     cases tt with
     | false =>
      go_wp2_with fail
      go_quiet (fail)
      go_wp2_with fail
      go_roundw
      case rel => exact ⟨s + 1,by omega,by go_num,by rw [HWS.out];rfl,HM.out.drewN _⟩
      case measure => simp [intOf];omega
     | true =>
      by_cases hyw : (y : Int) = v.want
      ·rw [decide_eq_true hyw] at HWS
       have hd1 : ((y : Int) == v.want) = true:=by simpa using hyw
       have hd3 : decide ((y : Int) = v.want) = true:=by simpa using hyw
       go_wp2_with fail
       go_quiet (fail)
       go_wp2_with fail
       go_roundw
       case rel => exact ⟨s + 1,by omega,by go_num,by rw [HWS.out];rfl,HM.out.drewN _⟩
       case measure => simp [intOf];omega
      ·rw [decide_eq_false hyw] at HWS
       have hd1 : ((y : Int) == v.want) = false:=by simpa using hyw
       have hd3 : decide ((y : Int) = v.want) = false:=by simpa using hyw
       go_wp2_with fail
       go_quiet (fail)
       go_wp2_with fail
       go_roundw
       case rel => exact ⟨s + 1,by omega,by go_num,by rw [HWS.out];rfl,HM.out.drewN _⟩
       case measure => simp [intOf];omega
    ·obtain rfl : s = vs.length:=by omega
     have ht:=HM.out.there HMX.out
     have hst:=HM.out.store HMX.out 0
     have HST:= zab hst
     clear hst c1 c2
     cases htt : wntB vs e.now vs.length with
     | true =>
      have HTT:= zab htt
      clear htt
      go_wp2_with (refine zd6 rfl 3 _ _ rfl g (i * 3 + 2) _ rfl rfl ht Tryz.infoIntC rfl (fun W => Hid (Ms base g cap w l W (m.set i { e with far:=0 }))) HST ?_;intro w7 HM7;simp only [Act.put,List.setIfInBounds_toArray,List.set_cons_zero,List.set_cons_succ,List.getElem_toArray,List.getElem_cons_zero,List.getElem_cons_succ])
      go_roundw
      case rel =>
       refine ⟨i + 1,_,by omega,by go_num,HM7,fun j d hd => ?_⟩
       by_cases hji : i = j
       ·subst hji
        rw [List.getElem?_set_self (List.getElem?_eq_some_iff.1 HMX.out).1] at hd
        cases hd
        rw [if_pos ⟨by omega,HTT.out⟩]
       ·rw [List.getElem?_set_ne hji] at hd
        rw [hfar.out j d hd]
        by_cases h1 : j < i
        ·simp [h1,show j < i + 1 by omega]
        ·simp [h1,show ¬ j < i + 1 by omega]
      case measure => simp [intOf];omega
     | false =>
      have HTT:= zab htt
      clear htt HST ht
      go_wp2_with fail
      go_roundw
      case rel =>
       refine ⟨i + 1,m,by omega,by go_num,HM,fun j d hd => ?_⟩
       rw [hfar.out j d hd]
       by_cases hji : i = j
       ·subst hji
        rw [HMX.out] at hd
        cases hd
        simp [HTT.out]
       ·by_cases h1 : j < i
        ·simp [h1,show j < i + 1 by omega]
        ·simp [h1,show ¬ j < i + 1 by omega]
      case measure => simp [intOf];omega
  ·obtain rfl : i = l.length:=by omega
   have hms : MI E (gB vs l) l.length 0 0 (m.map SE.far):=by
    refine MI.start (by rw [List.length_map];exact HM.out.fl.len) fun j x hx => ?_
    rw [List.getElem?_map,Option.map_eq_some_iff] at hx
    obtain ⟨d,hd,rfl⟩:=hx
    have hjl : j < l.length:=by rw [<- HM.out.fl.len];exact (List.getElem?_eq_some_iff.1 hd).1
    obtain ⟨e,he⟩ : ∃ e,l[j]? = some e:=⟨l[j],List.getElem?_eq_getElem hjl⟩
    obtain ⟨x,hx⟩:=HM.out.fl.same j e he
    rw [hd] at hx
    cases hx
    have:=hfar.out j _ hd
    rw [this];unfold gB;rw [he];simp [hjl]
   have hfb : ∀ (j : Nat) (x : Int),(m.map SE.far)[j]? = some x -> x <= ((0 * E.length + 0 : Nat) : Int):=fun j x hx => by
    rw [List.getElem?_map,Option.map_eq_some_iff] at hx
    obtain ⟨d,hd,rfl⟩:=hx
    rw [hfar.out j d hd];split <;> simp
   have HMS:= zab hms
   have HFB:= zab hfb
   have HNE:=(zab (show ∀ e ∈ E,e.1 < l.length /\ e.2.1 < l.length by rw [HN.out];exact HE.out))
   clear hms hfb hfar hi hlt hx0
   generalize hGd : gB vs l = G at HMS
   have HG:= zab hGd
   clear hGd
   go_wp2_with fail
   go_loopw [9] (fun vr wr => ∃ (r : Nat) (m : List SE),r <= l.length /\ vr = .int .i64 r /\ Hid (Ms base g cap w l wr m) /\ Hid (MI E G l.length r 0 (m.map SE.far)) /\ Hid (∀ (j : Nat) (x : Int),(m.map SE.far)[j]? = some x -> x <= ((r * E.length + 0 : Nat) : Int))) (fun r _ => l.length - (intOf r).toNat)
   case atStart => exact ⟨0,m,Nat.zero_le _,rfl,HM,HMS,HFB⟩
   case round =>
    clear HM HMS HFB
    clear m
    obtain ⟨r,m,hr,rfl,HM,HMS,HFB⟩:=hrel
    rename World => w6
    have hr0 := znn r
    by_cases hrl : r < l.length
    ·have hr1 : (r : Int) < (l.length : Int):=by omega
     have hrE : r * E.length <= 100000000000000:=Nat.le_trans (Nat.mul_le_mul (show r <= 1000000 by omega) hEl) (by omega)
     go_wp2_with fail
     go_loopw [10,11] (fun va' vk wr => ∃ (k : Nat) (m : List SE) (ag : Bool),k <= E.length /\ vk = .int .i64 k /\ va' = .bool ag /\ Hid (Ms base g cap w l wr m) /\ Hid (MI E G l.length r k (m.map SE.far)) /\ Hid (ag = false -> ∀ (c : Nat) (d : Nat × Nat × Nat),c < k -> E[c]? = some d -> rlxB (m.map SE.far) d = false) /\ Hid (∀ (j : Nat) (x : Int),(m.map SE.far)[j]? = some x -> x <= ((r * E.length + k : Nat) : Int))) (fun _ k _ => E.length - (intOf k).toNat)
     case atStart => exact ⟨0,m,false,Nat.zero_le _,rfl,rfl,HM,HMS,fun _ c d hc => by omega,HFB⟩
     case round =>
      clear HM HMS HFB
      clear m
      obtain ⟨k,m,ag,hk,rfl,rfl,HM,HMS,HAG,HFB⟩:=hrel
      rename World => w7
      have hk0 := znn k
      by_cases hkl : k < E.length
      ·obtain ⟨⟨a,b,p⟩,hke⟩ : ∃ d,E[k]? = some d:=⟨E[k],List.getElem?_eq_getElem hkl⟩
       obtain ⟨bE,rfl,k0,k1,_,_⟩:=HED.out k _ hke
       have hbE:=HEG.out bE rfl
       have k0:=HM.out.kept.cell hbE k0
       have k1:=HM.out.kept.cell hbE k1
       obtain ⟨hal,hbl⟩:=HNE.out _ (List.mem_of_getElem? hke)
       simp only at k0 k1 hal hbl
       obtain ⟨ea',hea'⟩ : ∃ d,m[a]? = some d:=⟨m[a]'(by rw [HM.out.fl.len];exact hal),List.getElem?_eq_getElem _⟩
       obtain ⟨eb',heb'⟩ : ∃ d,m[b]? = some d:=⟨m[b]'(by rw [HM.out.fl.len];exact hbl),List.getElem?_eq_getElem _⟩
       have ca:=(zeg (zc2 HM.out.own) hea').2.2
       have cb:=(zeg (zc2 HM.out.own) heb').2.2
       have hga : (m.map SE.far).getD a 0 = ea'.far:=zc1 (zhs hea')
       have hgb : (m.map SE.far).getD b 0 = eb'.far:=zc1 (zhs heb')
       have hst:=HMS.out.step hke HNE.out
       have hrb : rlxB (m.map SE.far) (a,b,p) = (decide (0 <= eb'.far) && (decide (ea'.far < 0) || decide (eb'.far + 1 < ea'.far))):=by unfold rlxB;simp only [hga,hgb]
       have HEA:= zab hea'
       have HST:= zab hst
       have HKE:= zab hke
       have HGB:= zab hgb
       have HFA:=(zab (zhs hea'))
       have HFBB:=(zab (zhs heb'))
       have hxb:=HFB.out _ _ HFBB.out
       have hxb2 : eb'.far <= 1000000000000000:=by omega
       have hk1' : (k : Int) < (E.length : Int):=by omega
       have a0 := znn a
       have a1 : (a : Int) < (l.length : Int):=by omega
       have b0 := znn b
       have b1 : (b : Int) < (l.length : Int):=by omega
       clear hst hke hgb hga hxb
       by_cases h1 : 0 <= eb'.far
       ·have hd1 : decide (0 <= eb'.far) = true:=by simpa using h1
        have hwr : IntKind.i64.wrap (eb'.far + 1) = eb'.far + 1:=by rw [IntKind.wrap_i64];omega
        by_cases h2 : ea'.far < 0
        ·have hd2 : decide (ea'.far < 0) = true:=by simpa using h2
         have HRB : Hid (rlxB (m.map SE.far) (a,b,p) = true):=by show _ = _;rw [hrb,hd1,hd2];rfl
         clear hrb hea' heb'
         go_wp2_with fail
         go_quiet (fail)
         go_wp2_with (refine zd6 rfl 3 _ _ rfl g (a * 3 + 2) _ rfl rfl ((HM.out.drewN _).there HEA.out) Tryz.infoIntC rfl (fun W => Hid (Ms base g cap w l W (m.set a { ea' with far:=eb'.far + 1 }))) (zab ((HM.out.drewN _).store HEA.out _)) ?_;intro w7 HM7;simp only [Act.put,List.setIfInBounds_toArray,List.set_cons_zero,List.set_cons_succ,List.getElem_toArray,List.getElem_cons_zero,List.getElem_cons_succ])
         go_roundw
         case rel =>
          refine ⟨k + 1,_,true,by omega,by go_num,rfl,HM7,?_,fun h => (by cases h),fun j x hx => ?_⟩
          ·rw [zht];have:=HST.out.1 HRB.out;rw [HGB.out] at this;exact this
          ·rw [zht] at hx
           rcases Nat.decEq a j with hne | heq
           ·rw [List.getElem?_set_ne hne] at hx;have:=HFB.out j x hx;omega
           ·subst heq;rw [List.getElem?_set_self (List.getElem?_eq_some_iff.1 HFA.out).1] at hx;cases hx;have:=HFB.out _ _ HFBB.out;omega
         case measure => simp [intOf];omega
        ·have hd2 : decide (ea'.far < 0) = false:=by simpa using h2
         by_cases h3 : eb'.far + 1 < ea'.far
         ·have hd3 : decide (eb'.far + 1 < ea'.far) = true:=by simpa using h3
          have HRB : Hid (rlxB (m.map SE.far) (a,b,p) = true):=by show _ = _;rw [hrb,hd1,hd2,hd3];rfl
          clear hrb hea' heb'
          go_wp2_with fail
          go_quiet (fail)
          go_wp2_with (refine zd6 rfl 3 _ _ rfl g (a * 3 + 2) _ rfl rfl ((HM.out.drewN _).there HEA.out) Tryz.infoIntC rfl (fun W => Hid (Ms base g cap w l W (m.set a { ea' with far:=eb'.far + 1 }))) (zab ((HM.out.drewN _).store HEA.out _)) ?_;intro w7 HM7;simp only [Act.put,List.setIfInBounds_toArray,List.set_cons_zero,List.set_cons_succ,List.getElem_toArray,List.getElem_cons_zero,List.getElem_cons_succ])
          go_roundw
          case rel =>
           refine ⟨k + 1,_,true,by omega,by go_num,rfl,HM7,?_,fun h => (by cases h),fun j x hx => ?_⟩
           ·rw [zht];have:=HST.out.1 HRB.out;rw [HGB.out] at this;exact this
           ·rw [zht] at hx
            rcases Nat.decEq a j with hne | heq
            ·rw [List.getElem?_set_ne hne] at hx;have:=HFB.out j x hx;omega
            ·subst heq;rw [List.getElem?_set_self (List.getElem?_eq_some_iff.1 HFA.out).1] at hx;cases hx;have:=HFB.out _ _ HFBB.out;omega
          case measure => simp [intOf];omega
         ·have hd3 : decide (eb'.far + 1 < ea'.far) = false:=by simpa using h3
          have HRB : Hid (rlxB (m.map SE.far) (a,b,p) = false):=by show _ = _;rw [hrb,hd1,hd2,hd3];rfl
          clear hrb hea' heb'
          go_wp2_with fail
          go_quiet (fail)
          go_wp2_with fail
          go_roundw
          case rel =>
           refine ⟨k + 1,m,ag,by omega,by go_num,rfl,HM.out.drewN _,HST.out.2 HRB.out,fun h c d hc hd => ?_,fun j x hx => by have:=HFB.out j x hx;omega⟩
           by_cases hck : c = k
           ·subst hck;rw [HKE.out] at hd;cases hd;exact HRB.out
           ·exact HAG.out h c d (by omega) hd
          case measure => simp [intOf];omega
       ·have hd1 : decide (0 <= eb'.far) = false:=by simpa using h1
        have HRB : Hid (rlxB (m.map SE.far) (a,b,p) = false):=by show _ = _;rw [hrb,hd1];rfl
        clear hrb hea' heb'
        go_wp2_with fail
        go_quiet (fail)
        go_wp2_with fail
        go_roundw
        case rel =>
         refine ⟨k + 1,m,ag,by omega,by go_num,rfl,HM.out.drewN _,HST.out.2 HRB.out,fun h c d hc hd => ?_,fun j x hx => by have:=HFB.out j x hx;omega⟩
         by_cases hck : c = k
         ·subst hck;rw [HKE.out] at hd;cases hd;exact HRB.out
         ·exact HAG.out h c d (by omega) hd
        case measure => simp [intOf];omega
      ·obtain rfl : k = E.length:=by omega
       cases ag with
       | true =>
        have hmr:=HMS.out.round
        have HMR:= zab hmr
        clear hmr
        go_wp2_with fail
        go_roundw
        case rel => exact ⟨r + 1,m,by omega,by go_num,HM,HMR,fun j x hx => by have:=HFB.out j x hx;rw [Nat.succ_mul];omega⟩
        case measure => simp [intOf];omega
       | false =>
        have hfo:=HMS.out.still HNE.out (fun c d hd => HAG.out rfl c d (List.getElem?_eq_some_iff.1 hd).1 hd)
        have HFO:= zab hfo
        clear hfo
        go_wp2_with fail
        (try simp only [Exit.inBlock,Exit.then])
        refine bodyPost_ret (results_none rfl _ _ _) rfl ?_
        exact ⟨rfl,m,HM.out,by rw [<- HN.out,HG.out];exact HFO.out⟩
    ·obtain rfl : r = l.length:=by omega
     have hfo:=HMS.out.far HNE.out
     have HFO:= zab hfo
     clear hfo
     go_wp2_with fail
     go_end0
     exact ⟨rfl,m,HM.out,by rw [<- HN.out,HG.out];exact HFO.out⟩
end
end Go.Proofs.YtkkekopomiehlaaGreat
