import Derived.Test.YtkkekopomiehlabHSf12
set_option linter.unusedVariables false
set_option linter.unusedSimpArgs false
set_option maxHeartbeats 40000000
set_option maxRecDepth 4000
namespace Go.Proofs.Ytkkekopomiehlab
section
open Go.RowKit
def cpA (T : List (List Bool)) (p q : PinD) : Bool:=(p.t != q.t) || gaB T p q
def cpF (T : List (List Bool)) (ts : List Int) (p q : PinD) : Bool:=cpA T p q || !(numB p.t ts.length && (ts.getD p.t.toNat 0 == 0))
def cmpA (T : List (List Bool)) (ps qs : List PinD) : Bool:=ps.all fun p => qs.all (cpA T p)
def cmpF (T : List (List Bool)) (ts : List Int) (ps qs : List PinD) : Bool:=ps.all fun p => qs.all (cpF T ts p)
theorem zd8 {α : Type} {l : List α} {x : Nat} {p : α} (f : α -> Bool) (h : l[x]? = some p) : (l.take (x + 1)).all f = ((l.take x).all f && f p):=by
 rw [List.take_add_one,h,List.all_append];simp
theorem zk8 (T : List (List Bool)) (hT : tabOk T) (ts : List Int) (ps qs : List PinD) (ta pa qa : Option Addr) (tc pc qc : Nat) (w : World) (ht : ts.length <= 2000000) (hp : ps.length <= 2000000) (hq : qs.length <= 2000000) (hta : IntsAt w ta ts) (hpa : PinsAt w pa ps) (hqa : PinsAt w qa qs) :
  Calls Try.prog 39 #[.slice ta ts.length tc,.agg (tabC T).toArray,.slice pa ps.length pc,.slice qa qs.length qc] w fun e W => e = .returned (.tuple #[.bool (cmpA T ps qs),.bool (cmpF T ts ps qs)]) /\ Below w.heap.size w W:=by
 have it:=hT.info
 have rt:=za0 (zan w (.cells (tabC T).toArray 86))
 obtain ⟨RA,hRA⟩ : ∃ R,R = cmpA T ps qs:=⟨_,rfl⟩
 obtain ⟨RF,hRF⟩ : ∃ R,R = cmpF T ts ps qs:=⟨_,rfl⟩
 rw [<- hRA,<- hRF]
 have HRA : Hid (RA = ps.all fun p => qs.all (cpA T p)):=hRA
 have HRF : Hid (RF = ps.all fun p => qs.all (cpF T ts p)):=hRF
 have HTA : Hid (IntsAt w ta ts):=hta
 have HPA : Hid (PinsAt w pa ps):=hpa
 have HQA : Hid (PinsAt w qa qs):=hqa
 have HT : Hid (tabOk T):=hT
 clear hRA hRF hta hpa hqa hT
 go_enter Try.func39,Try.ntmps39
 go_wp2_with fail
 go_loopw [10,11,18] (fun va vf vi wr => ∃ (i : Nat) (x y : Bool),i <= ps.length /\ vi = .int .i64 i /\ va = .bool x /\ vf = .bool y /\ Hid (x = (ps.take i).all fun p => qs.all (cpA T p)) /\ Hid (y = (ps.take i).all fun p => qs.all (cpF T ts p)) /\ Below (w.alloc (.cells (tabC T).toArray 86)).heap.size (w.alloc (.cells (tabC T).toArray 86)) wr) (fun _ _ i _ => ps.length - (intOf i).toNat)
 case atStart => exact ⟨0,true,true,Nat.zero_le _,rfl,rfl,rfl,(by show _ = _;rfl),(by show _ = _;rfl),Below.refl _ _⟩
 case round =>
  obtain ⟨i,x0,y0,hi,rfl,rfl,rfl,hx,hy,hb⟩:=hrel
  rename World => w5
  have hbw:=thn3 (belS w _) hb
  by_cases hlt : i < ps.length
  ·obtain ⟨p,hpi⟩ : ∃ p,ps[i]? = some p:=⟨ps[i],List.getElem?_eq_getElem hlt⟩
   obtain ⟨b,o,rfl,c0,c1,c2⟩:=HPA.out i p hpi
   have c0:=zaa hbw c0
   have c1:=zaa hbw c1
   have c2:=zaa hbw c2
   have hbl:=zaj c0
   have hsx:=zd8 (fun p => qs.all (cpA T p)) hpi
   have hsy:=zd8 (fun p => qs.all (cpF T ts p)) hpi
   rw [<- hx.out] at hsx
   rw [<- hy.out] at hsy
   have HSX:=(show Hid (((ps.take (i + 1)).all fun p => qs.all (cpA T p)) = (x0 && qs.all (cpA T p))) from hsx)
   have HSY:=(show Hid (((ps.take (i + 1)).all fun p => qs.all (cpF T ts p)) = (y0 && qs.all (cpF T ts p))) from hsy)
   have hx0 := znn i
   have hx1 : (i : Int) < (ps.length : Int):=by omega
   clear hsx hsy hx hy hpi HRA HRF
   obtain ⟨pt,pw,pr⟩:=p
   simp only at c0 c1 c2
   have pb0:=box3 w5 (.int .i64 pt) (.int .i64 pw) (.int .i64 pr) 108
   have hbP:=thn3 hb (belS w5 (.cells #[.int .i64 pt,.int .i64 pw,.int .i64 pr] 108))
   go_wp2_with fail
   go_loopw [10,11,24] (fun va vf vj wr => ∃ (j : Nat) (x y : Bool),j <= qs.length /\ vj = .int .i64 j /\ va = .bool x /\ vf = .bool y /\ Hid (x = (x0 && (qs.take j).all (cpA T ⟨pt,pw,pr⟩))) /\ Hid (y = (y0 && (qs.take j).all (cpF T ts ⟨pt,pw,pr⟩))) /\ Below (w5.alloc (.cells #[.int .i64 pt,.int .i64 pw,.int .i64 pr] 108)).heap.size (w5.alloc (.cells #[.int .i64 pt,.int .i64 pw,.int .i64 pr] 108)) wr) (fun _ _ j _ => qs.length - (intOf j).toNat)
   case atStart => exact ⟨0,x0,y0,Nat.zero_le _,rfl,rfl,rfl,(by show _ = _;simp),(by show _ = _;simp),Below.refl _ _⟩
   case round =>
    obtain ⟨j,x,y,hj,rfl,rfl,rfl,hxj,hyj,hbq⟩:=hrel
    have hbqB:=thn3 hbP hbq
    have hbqw:=thn3 (belS w _) hbqB
    have pb1:=zag hbq pb0
    by_cases hjl : j < qs.length
    ·obtain ⟨q,hqj⟩ : ∃ q,qs[j]? = some q:=⟨qs[j],List.getElem?_eq_getElem hjl⟩
     obtain ⟨b',o',rfl,d0,d1,d2⟩:=HQA.out j q hqj
     have d0:=zaa hbqw d0
     have d1:=zaa hbqw d1
     have d2:=zaa hbqw d2
     have hbl2:=zaj d0
     have hlp : w5.heap.size < wr.heap.size:=zaj pb1.1
     have ex:=zd8 (cpA T ⟨pt,pw,pr⟩) hqj
     have ey:=zd8 (cpF T ts ⟨pt,pw,pr⟩) hqj
     have hy0 := znn j
     have hy1 : (j : Int) < (qs.length : Int):=by omega
     obtain ⟨qt,qw,qr⟩:=q
     simp only at d0 d1 d2
     have sx : (x0 && (qs.take (j + 1)).all (cpA T ⟨pt,pw,pr⟩)) = (x && cpA T ⟨pt,pw,pr⟩ ⟨qt,qw,qr⟩):=by rw [ex,hxj.out,Bool.and_assoc]
     have sy : (y0 && (qs.take (j + 1)).all (cpF T ts ⟨pt,pw,pr⟩)) = (y && cpF T ts ⟨pt,pw,pr⟩ ⟨qt,qw,qr⟩):=by rw [ey,hyj.out,Bool.and_assoc]
     have rt2:=zae (belS wr (.cells #[.int .i64 qt,.int .i64 qw,.int .i64 qr] 108)) (zae hbqB rt)
     have hga:=fun W => zls T HT.out ⟨pt,pw,pr⟩ ⟨qt,qw,qr⟩ W
     simp only at hga
     have hAd : cpA T ⟨pt,pw,pr⟩ ⟨qt,qw,qr⟩ = ((pt != qt) || gaB T ⟨pt,pw,pr⟩ ⟨qt,qw,qr⟩):=rfl
     have hFd : cpF T ts ⟨pt,pw,pr⟩ ⟨qt,qw,qr⟩ = (cpA T ⟨pt,pw,pr⟩ ⟨qt,qw,qr⟩ || !(numB pt ts.length && (ts.getD pt.toNat 0 == 0))):=rfl
     generalize gaB T ⟨pt,pw,pr⟩ ⟨qt,qw,qr⟩ = g at hga hAd
     rw [hFd,hAd] at sy
     rw [hAd] at sx
     clear ex ey hqj hxj hyj hAd hFd
     have hBE:=belS wr (.cells #[.int .i64 qt,.int .i64 qw,.int .i64 qr] 108)
     by_cases hpq : pt = qt
     ·have hne : (pt != qt) = false:=by simp [hpq]
      rw [hne,Bool.false_or] at sx sy
      clear hpq
      cases g with
      | true =>
       have hX : Hid (x = (x0 && (qs.take (j + 1)).all (cpA T ⟨pt,pw,pr⟩))):=by show _ = _;rw [sx,Bool.and_true]
       have hY : Hid (y = (y0 && (qs.take (j + 1)).all (cpF T ts ⟨pt,pw,pr⟩))):=by show _ = _;rw [sy];simp
       clear sx sy
       go_wp2_with (first | (refine zbv (w:=wr.alloc (.cells #[.int .i64 qt,.int .i64 qw,.int .i64 qr] 108)) (by rfl) 86 _ rfl w.heap.size 0 rfl (tabC T) _ rt2 Try.underlying86 rfl it ?_) | (go_at_call 55;refine (hga _).mono ?_;rintro e w2 ⟨rfl,hb2⟩;have pb2:=zag hb2 (new3 _ pb1)))
       go_roundw
       case rel => exact ⟨j + 1,x,y,by omega,by go_num,rfl,rfl,hX,hY,thn3 (thn3 hbq hBE) hb2⟩
       case measure => simp [intOf];omega
      | false =>
       have hX : Hid (false = (x0 && (qs.take (j + 1)).all (cpA T ⟨pt,pw,pr⟩))):=by show _ = _;rw [sx,Bool.and_false]
       clear sx
       rw [Bool.false_or] at sy
       have hnu:=fun w => zbj pt ts.length w
       by_cases hn : 0 <= pt /\ pt < ts.length
       ·have e1 : numB pt ts.length = true:=by unfold numB;simp;omega
        rw [e1] at hnu sy
        obtain ⟨n,rfl⟩ : ∃ n : Nat,pt = n:=⟨pt.toNat,by omega⟩
        rw [Int.toNat_natCast] at sy
        obtain ⟨k,hk⟩ : ∃ k,ts[n]? = some k:=⟨ts[n]'(by omega),List.getElem?_eq_getElem (by omega)⟩
        obtain ⟨bt,ot,rfl,t0⟩:=HTA.out n k hk
        have t0:=zaa hbqw t0
        have hn0 := znn n
        have hn1 : (n : Int) < (ts.length : Int):=hn.2
        have hgk : ts.getD n 0 = k:=by simp [List.getD,hk]
        rw [hgk] at sy
        clear hk hgk e1 hn
        by_cases hk0 : k = 0
        ·have hk' : (k == 0) = true:=by simp [hk0]
         have hY : Hid (false = (y0 && (qs.take (j + 1)).all (cpF T ts ⟨n,pw,pr⟩))):=by show _ = _;rw [sy,hk'];simp
         clear sy hk0
         go_wp2_with (first | (refine zbv (w:=wr.alloc (.cells #[.int .i64 qt,.int .i64 qw,.int .i64 qr] 108)) (by rfl) 86 _ rfl w.heap.size 0 rfl (tabC T) _ rt2 Try.underlying86 rfl it ?_) | (go_at_call 55;refine (hga _).mono ?_;rintro e w2 ⟨rfl,hb2⟩;have t2:=zaa hb2 (zar _ t0);have pb2:=zag hb2 (new3 _ pb1)) | (go_at_call 54;refine (hnu _).mono ?_;rintro e _ ⟨rfl,rfl⟩))
         go_roundw
         case rel => exact ⟨j + 1,false,false,by omega,by go_num,rfl,rfl,hX,hY,thn3 (thn3 hbq hBE) hb2⟩
         case measure => simp [intOf];omega
        ·have hk' : (k == 0) = false:=by simp [hk0]
         have hY : Hid (y = (y0 && (qs.take (j + 1)).all (cpF T ts ⟨n,pw,pr⟩))):=by show _ = _;rw [sy,hk'];simp
         clear sy hk0
         go_wp2_with (first | (refine zbv (w:=wr.alloc (.cells #[.int .i64 qt,.int .i64 qw,.int .i64 qr] 108)) (by rfl) 86 _ rfl w.heap.size 0 rfl (tabC T) _ rt2 Try.underlying86 rfl it ?_) | (go_at_call 55;refine (hga _).mono ?_;rintro e w2 ⟨rfl,hb2⟩;have t2:=zaa hb2 (zar _ t0);have pb2:=zag hb2 (new3 _ pb1)) | (go_at_call 54;refine (hnu _).mono ?_;rintro e _ ⟨rfl,rfl⟩))
         go_roundw
         case rel => exact ⟨j + 1,false,y,by omega,by go_num,rfl,rfl,hX,hY,thn3 (thn3 hbq hBE) hb2⟩
         case measure => simp [intOf];omega
       ·have e1 : numB pt ts.length = false:=by unfold numB;simp;omega
        rw [e1] at hnu sy
        have hY : Hid (y = (y0 && (qs.take (j + 1)).all (cpF T ts ⟨pt,pw,pr⟩))):=by show _ = _;rw [sy];simp
        clear sy hn e1
        go_wp2_with (first | (refine zbv (w:=wr.alloc (.cells #[.int .i64 qt,.int .i64 qw,.int .i64 qr] 108)) (by rfl) 86 _ rfl w.heap.size 0 rfl (tabC T) _ rt2 Try.underlying86 rfl it ?_) | (go_at_call 55;refine (hga _).mono ?_;rintro e w2 ⟨rfl,hb2⟩;have pb2:=zag hb2 (new3 _ pb1)) | (go_at_call 54;refine (hnu _).mono ?_;rintro e _ ⟨rfl,rfl⟩))
        go_roundw
        case rel => exact ⟨j + 1,false,y,by omega,by go_num,rfl,rfl,hX,hY,thn3 (thn3 hbq hBE) hb2⟩
        case measure => simp [intOf];omega
     ·have hne : (pt != qt) = true:=by simp [hpq]
      rw [hne,Bool.true_or] at sx sy
      have hX : Hid (x = (x0 && (qs.take (j + 1)).all (cpA T ⟨pt,pw,pr⟩))):=by show _ = _;rw [sx,Bool.and_true]
      have hY : Hid (y = (y0 && (qs.take (j + 1)).all (cpF T ts ⟨pt,pw,pr⟩))):=by show _ = _;rw [sy];simp
      clear sx sy hpq
      go_wp2_with fail
      go_roundw
      case rel => exact ⟨j + 1,x,y,by omega,by go_num,rfl,rfl,hX,hY,thn3 hbq hBE⟩
      case measure => simp [intOf];omega
    ·have hX : Hid (x = (ps.take (i + 1)).all fun p => qs.all (cpA T p)):=by show _ = _;rw [HSX.out,hxj.out,List.take_of_length_le (by omega)]
     have hY : Hid (y = (ps.take (i + 1)).all fun p => qs.all (cpF T ts p)):=by show _ = _;rw [HSY.out,hyj.out,List.take_of_length_le (by omega)]
     clear hxj hyj HSX HSY
     go_wp2_with fail
     go_roundw
     case rel => exact ⟨i + 1,x,y,by omega,by go_num,rfl,rfl,hX,hY,hbqB⟩
     case measure => simp [intOf];omega
  ·have h1 : RA = x0:=by rw [HRA.out,hx.out,List.take_of_length_le (by omega)]
   have h2 : RF = y0:=by rw [HRF.out,hy.out,List.take_of_length_le (by omega)]
   clear hx hy HRA HRF
   subst h1 h2
   go_wp2_with fail
   go_ret2
   exact ⟨rfl,hbw⟩
end
section
open Go.RowKit
def plOf (f : zad) (p : Nat) : List PinD:=match f.vs[p / 3]? with | some v => v.rels.getD (p % 3) [] | none => []
def thB (f : zad) (p : Nat) : Bool:=match f.vs[p / 3]? with | some v => decide (p % 3 < v.rels.length) | none => false
def fsB (f : zad) (p : Nat) : Bool:=match f.vs[p / 3]? with | some v => decide (p % 3 < v.rels.length) && (((p % 3 : Nat) : Int) == v.now) | none => false
def wnB (f : zad) (p : Nat) : Bool:=match f.vs[p / 3]? with | some v => decide (p % 3 < v.rels.length) && (((p % 3 : Nat) : Int) == v.want) | none => false
def zac (f : zad) : ChD:=⟨(List.range 9).map (thB f),(List.range 9).map (fsB f),(List.range 9).map (wnB f),(List.range 9).map fun a => (List.range 9).map fun b => cmpA (za4 f.ss) (plOf f a) (plOf f b),(List.range 9).map fun a => (List.range 9).map fun b => cmpF (za4 f.ss) f.ts (plOf f a) (plOf f b)⟩
theorem za1 (f : zad) : (zac f).ok:=by
 refine ⟨by simp [zac],by simp [zac],by simp [zac],by simp [zac],fun r hr => ?_,by simp [zac],fun r hr => ?_⟩
 iterate 2
  ·obtain ⟨i,_,rfl⟩:=List.mem_map.1 hr;simp
theorem zdv {α : Type} (F : Nat -> α) (d : α) {i n : Nat} (h : i < n) : ((List.range n).map F).getD i d = F i:=by simp [List.getD,List.getElem?_range h]
theorem zg0 (f : zad) {p : Nat} (h : p < 9) : (zac f).thr.getD p false = thB f p:=zdv _ _ h
theorem zeb (f : zad) {p : Nat} (h : p < 9) : (zac f).fst.getD p false = fsB f p:=zdv _ _ h
structure Ord (f : zad) : Prop where
 ss8 : f.ss.length <= 8
 sch : zb0 f.ss = true
 ts4 : f.ts.length <= 4
 vs1 : 1 <= f.vs.length
 vs3 : f.vs.length <= 3
 svc : ∀ v ∈ f.vs,svcB f.ss.length f.ts.length v = true
theorem zeo {f : zad} (h : ordB f = true) : Ord f:=by
 unfold ordB at h
 rw [Bool.and_eq_true,Bool.and_eq_true] at h
 obtain ⟨⟨h1,h2⟩,h3⟩:=h
 have h1':=h1
 unfold zb0 at h1
 unfold zcp at h2
 unfold zcn at h3
 rw [Bool.and_eq_true] at h1 h2
 rw [Bool.and_eq_true,Bool.and_eq_true] at h3
 exact ⟨of_decide_eq_true h1.1,h1',of_decide_eq_true h2.1,of_decide_eq_true h3.1.1,of_decide_eq_true h3.1.2,List.all_eq_true.1 h3.2⟩
theorem Ord.parts {f : zad} (h : Ord f) {v : SvcD} (hv : v ∈ f.vs) : 1 <= v.rels.length /\ v.rels.length <= 3 /\ (0 <= v.now /\ v.now < v.rels.length) /\ (0 <= v.want /\ v.want < v.rels.length) /\ ∀ ps ∈ v.rels,zbn f.ss.length f.ts.length ps = true:=by
 have:=h.svc v hv
 unfold svcB numB at this
 simp only [Bool.and_eq_true,decide_eq_true_eq,List.all_eq_true] at this
 obtain ⟨⟨⟨⟨⟨⟨a1,a2⟩,a3⟩,a4⟩,a5⟩,a6⟩,a7⟩:=this
 exact ⟨a3,a4,a5,a6,a7⟩
end
section
open Go.RowKit
open Go.Lib (below_setCells)
def sfN (c : ChD) : SiD -> List (Int × Int) -> Nat
 | _,[] => 0
 | s,m :: ms => if sfB c s (plI m.1 m.2) = true then sfN c (aft s (plI m.1 m.2)) ms + 1 else 0
theorem zke (c : ChD) (hc : c.ok) (ms : List (Int × Int)) (w : World) (a : Option Addr) (cap : Nat) (hl : ms.length <= 200) (hp : MovesAt w a ms) :
  Calls Try.prog 20 #[.agg c.cells.toArray,.slice a ms.length cap] w fun e W => e = .returned (.int .i64 (sfN c (begD c) ms : Nat)) /\ Below w.heap.size w W:=by
 have hq1:=za0 (zan w (.cells c.cells.toArray 50))
 have ic : (Try.prog.info? 50).map (·.size) = some c.cells.length:=by rw [hc.len];exact Try.infoCht
 have hbeg:=fun w => ze8 c hc w
 obtain ⟨b1,b2,b3⟩:=zb2 (zbx hc)
 have hlen:=(zbx hc).len
 obtain ⟨R,hR⟩ : ∃ R,R = sfN c (begD c) ms:=⟨_,rfl⟩
 rw [<- hR]
 have HR : Hid (R = 0 + sfN c (begD c) (ms.drop 0)):=by show _ = _;rw [Nat.zero_add];exact hR
 have HP:= zab hp
 have HO:=(zab (zbx hc))
 have HCC:= zab hc
 have HLN:= zab hlen
 have hmv:=fun s p (hs : SiD.ok s) w => zhr c s p hc hs w
 clear hR hp hc hlen
 go_enter Try.func20,Try.ntmps20
 go_wp2_with (first
  | (refine wpList_load_mid (w:=w.alloc (.cells c.cells.toArray 50)) rfl 50 _ rfl w.heap.size 0 rfl c.cells _ hq1 Try.underlying50 rfl ic ?_)
  | (go_at_call 40;refine (hbeg _).mono ?_;rintro e w1 ⟨rfl,hb1⟩;have ht1 : (w1.alloc (.cells #[.bool false,.bool false,.bool false,.bool false,.bool false,.bool false,.bool false,.bool false,.bool false,.bool false,.bool false,.bool false,.bool false,.bool false,.bool false,.bool false,.bool false,.bool false] 91)).there w1.heap.size 0 (begD c).cells.toArray.size:=by (rw [show (begD c).cells.toArray.size = 18 by simpa using HLN.out];exact zbh (zan w1 (.cells #[.bool false,.bool false,.bool false,.bool false,.bool false,.bool false,.bool false,.bool false,.bool false,.bool false,.bool false,.bool false,.bool false,.bool false,.bool false,.bool false,.bool false,.bool false] 91))))
  | (refine wpList_store_mid (w:=w1.alloc (.cells #[.bool false,.bool false,.bool false,.bool false,.bool false,.bool false,.bool false,.bool false,.bool false,.bool false,.bool false,.bool false,.bool false,.bool false,.bool false,.bool false,.bool false,.bool false] 91)) rfl 91 _ _ rfl w1.heap.size 0 (begD c).cells.toArray rfl rfl ht1 b2 b3 ?_))
 have hB1 : Below w.heap.size w w1:=thn3 (belS w _) hb1
 have hBA : Below w1.heap.size w1 (w1.alloc (.cells #[.bool false,.bool false,.bool false,.bool false,.bool false,.bool false,.bool false,.bool false,.bool false,.bool false,.bool false,.bool false,.bool false,.bool false,.bool false,.bool false,.bool false,.bool false] 91)):=belS _ _
 have rs0:=World.rangeAt_setCells_same (w1.alloc (.cells #[.bool false,.bool false,.bool false,.bool false,.bool false,.bool false,.bool false,.bool false,.bool false,.bool false,.bool false,.bool false,.bool false,.bool false,.bool false,.bool false,.bool false,.bool false] 91)) w1.heap.size 0 (begD c).cells (by simpa using ht1)
 have rt0 : ((w1.alloc (.cells #[.bool false,.bool false,.bool false,.bool false,.bool false,.bool false,.bool false,.bool false,.bool false,.bool false,.bool false,.bool false,.bool false,.bool false,.bool false,.bool false,.bool false,.bool false] 91)).setCells w1.heap.size 0 (begD c).cells).there w1.heap.size 0 18:=World.there_setCells (zbh (zan w1 (.cells #[.bool false,.bool false,.bool false,.bool false,.bool false,.bool false,.bool false,.bool false,.bool false,.bool false,.bool false,.bool false,.bool false,.bool false,.bool false,.bool false,.bool false,.bool false] 91))) _ _ _
 have rc0 : ((w1.alloc (.cells #[.bool false,.bool false,.bool false,.bool false,.bool false,.bool false,.bool false,.bool false,.bool false,.bool false,.bool false,.bool false,.bool false,.bool false,.bool false,.bool false,.bool false,.bool false] 91)).setCells w1.heap.size 0 (begD c).cells).rangeAt w.heap.size 0 c.cells:=World.rangeAt_setCells_apart (zae hBA (zae hb1 hq1)) _ _ _ (.inl (by have:=hb1.size;simp at this;omega))
 have hB2 : Below w1.heap.size w1 ((w1.alloc (.cells #[.bool false,.bool false,.bool false,.bool false,.bool false,.bool false,.bool false,.bool false,.bool false,.bool false,.bool false,.bool false,.bool false,.bool false,.bool false,.bool false,.bool false,.bool false] 91)).setCells w1.heap.size 0 (begD c).cells):=below_setCells w1.heap.size (Nat.le_refl _) _ _ hBA
 go_loopw [13] (fun vi wr => ∃ (i : Nat) (s : SiD),i <= ms.length /\ vi = .int .i64 i /\ s.ok /\ Hid (R = i + sfN c s (ms.drop i)) /\ wr.rangeAt w1.heap.size 0 s.cells /\ wr.there w1.heap.size 0 18 /\ wr.rangeAt w.heap.size 0 c.cells /\ Below w1.heap.size w1 wr) (fun i _ => ms.length - (intOf i).toNat)
 case atStart => exact ⟨0,begD c,Nat.zero_le _,rfl,HO.out,HR,rs0,rt0,rc0,hB2⟩
 case round =>
  obtain ⟨i,s,hi,rfl,hso,hr,rs,rt,rc,hb⟩:=hrel
  rename World => w5
  have hbw:=thn3 hB1 hb
  by_cases hlt : i < ms.length
  ·obtain ⟨m,hmi⟩ : ∃ m,ms[i]? = some m:=⟨ms[i],List.getElem?_eq_getElem hlt⟩
   have hdrop : ms.drop i = m :: ms.drop (i + 1):=by
    rw [List.drop_eq_getElem_cons hlt];rw [List.getElem?_eq_getElem hlt] at hmi;simp at hmi;rw [hmi]
   obtain ⟨b,o,rfl,d0,d1⟩:=HP.out i m hmi
   have d0:=zaa hbw d0
   have d1:=zaa hbw d1
   have hbl:=zaj d0
   have hst : R = i + (if sfB c s (plI m.1 m.2) = true then sfN c (aft s (plI m.1 m.2)) (ms.drop (i + 1)) + 1 else 0):=by rw [hr.out,hdrop,sfN]
   obtain ⟨x,y⟩:=m
   simp only at d0 d1 hst
   have hpl:=fun w => zfj x y w
   have hmv1:=fun w => hmv s (plI x y) hso w
   have haf:=fun w => ze4 s (plI x y) hso w
   have hao:=zcs hso (plI x y)
   obtain ⟨s1,s2,s3⟩:=zb2 hso
   obtain ⟨q1,q2,q3⟩:=zb2 hao
   have hx0 := znn i
   have hx1 : (i : Int) < (ms.length : Int):=by omega
   generalize plI x y = p at hpl hmv1 haf hst hao q1 q2 q3
   have HAo:= zab hao
   have HAl:= zab hao.len
   generalize sfB c s p = t at hmv1 hst
   clear hmi hdrop hr hmv hao
   cases t with
   | false =>
    have hR1 : R = i:=by simpa using hst
    clear hst haf
    subst hR1
    go_wp2_with (first
     | (go_at_call 37;refine (hpl _).mono ?_;rintro e w2 ⟨rfl,hb2⟩;have rs2:=zae hb2 (zae (belS _ _) rs);have rc2:=zae hb2 (zae (belS _ _) rc))
     | (go_at_call 44;refine (hmv1 _).mono ?_;rintro e w3 ⟨rfl,hb3⟩)
     | (refine wpList_load_mid (w:=w2) rfl 50 _ rfl w.heap.size 0 rfl c.cells _ rc2 Try.underlying50 rfl ic ?_)
     | (refine wpList_load_mid (w:=w2) rfl 91 _ rfl w1.heap.size 0 rfl s.cells _ rs2 Try.underlying91 rfl s1 ?_))
    go_ret
    exact ⟨rfl,thn3 (thn3 (thn3 hbw (belS _ _)) hb2) hb3⟩
   | true =>
    have hst' : Hid (R = i + 1 + sfN c (aft s p) (ms.drop (i + 1))):=by show _ = _;rw [hst,if_pos rfl];omega
    clear hst
    go_wp2_with (first
     | (go_at_call 37;refine (hpl _).mono ?_;rintro e w2 ⟨rfl,hb2⟩;have rs2:=zae hb2 (zae (belS _ _) rs);have rc2:=zae hb2 (zae (belS _ _) rc);have rt2:=zcc hb2 (zcc (belS _ _) rt))
     | (go_at_call 44;refine (hmv1 _).mono ?_;rintro e w3 ⟨rfl,hb3⟩;have rs3:=zae hb3 rs2;have rc3:=zae hb3 rc2;have rt3:=zcc hb3 rt2)
     | (go_at_call 42;refine (haf _).mono ?_;rintro e w4 ⟨rfl,hb4⟩;have rc4:=zae hb4 rc3;have rt4:=zcc hb4 rt3;have rt4' : w4.there w1.heap.size 0 (aft s p).cells.toArray.size:=by (rw [show (aft s p).cells.toArray.size = 18 by simpa using HAl.out];exact rt4))
     | (have hq:=hb4;refine wpList_store_mid (w:=w4) rfl 91 _ _ rfl w1.heap.size 0 (aft s p).cells.toArray rfl rfl rt4' q2 q3 ?_)
     | (have hq:=hb3;(refine wpList_load_mid (w:=w3) rfl 91 _ rfl w1.heap.size 0 rfl s.cells _ rs3 Try.underlying91 rfl s1 ?_))
     | (refine wpList_load_mid (w:=w2) rfl 50 _ rfl w.heap.size 0 rfl c.cells _ rc2 Try.underlying50 rfl ic ?_)
     | (refine wpList_load_mid (w:=w2) rfl 91 _ rfl w1.heap.size 0 rfl s.cells _ rs2 Try.underlying91 rfl s1 ?_))
    go_roundw
    case rel =>
     have h4:=thn3 (thn3 (thn3 (thn3 hb (belS _ _)) hb2) hb3) hb4
     exact ⟨i + 1,aft s p,by omega,by go_num,HAo.out,hst',World.rangeAt_setCells_same _ _ _ _ (by simpa using rt4'),World.there_setCells rt4 _ _ _,World.rangeAt_setCells_apart rc4 _ _ _ (.inl (by have:=hb1.size;simp at this;omega)),below_setCells w1.heap.size (Nat.le_refl _) _ _ h4⟩
    case measure => simp [intOf];omega
  ·have hR1 : R = ms.length:=by rw [hr.out,List.drop_of_length_le (by omega),sfN];omega
   clear hr HR
   subst hR1
   go_wp2_with fail
   go_ret
   exact ⟨rfl,hbw⟩
end
end Go.Proofs.Ytkkekopomiehlab
