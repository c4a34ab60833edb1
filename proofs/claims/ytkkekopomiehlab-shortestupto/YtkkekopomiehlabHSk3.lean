import Derived.Test.YtkkekopomiehlabHSk1
import Derived.Deep.RegionLaw
set_option linter.unusedVariables false
set_option linter.unusedSimpArgs false
set_option maxHeartbeats 40000000
set_option maxRecDepth 4000
namespace Go.Proofs.Ytkkekopomiehlab
section
open Go.RowKit
theorem zoz (w : World) : Calls Try.prog 15 #[.int .i64 0,.int .i64 0,.int .i64 0,.int .i64 0] w fun e W => ∃ gs gt gv gm,e = .returned (.tuple #[.agg #[.slice (some ⟨gs,0,none⟩) 2 2,.slice (some ⟨gt,0,none⟩) 1 1,.slice (some ⟨gv,0,none⟩) 2 2],.slice (some ⟨gm,0,none⟩) 2 2]) /\ FleetAt W (some ⟨gs,0,none⟩) 2 2 (some ⟨gt,0,none⟩) 1 1 (some ⟨gv,0,none⟩) 2 2 flt0 /\ MvsAt W (some ⟨gm,0,none⟩) [(1,1),(0,1)] /\ Below w.heap.size w W:=by
 have Z0 : Hid (RowIs (w.alloc (.cells #[.slice none 0 0,.slice none 0 0,.slice none 0 0] 26)) w.heap.size 26 [.slice none 0 0,.slice none 0 0,.slice none 0 0]):=zbs _ _
 have p1:=fun W => zf4 6 (by omega) (by omega) W
 have p2:=fun W => zf4 3 (by omega) (by omega) W
 have p3:=fun W => zf4 5 (by omega) (by omega) W
 have c1:=fun W => zp1 1 W
 have c2:=fun W => zn1 1 W
 go_enter Try.func15,Try.ntmps15
 go_wp2_with (first
  | (go_at_call 30;have hq:=hb5;refine (p3 _).mono ?_;rintro e w6 ⟨rfl,hb6⟩;have k5:=thn3 (thn3 (bel1 w5 (.cells #[.int .i64 1,.int .i64 0,.int .i64 1,.slice (some ⟨g1,0,none⟩) 2 2,.int .i64 1,.int .i64 0,.int .i64 1,.slice (some ⟨g2,0,none⟩) 2 2] 60)) (bel1 _ (.cells #[.slice none 0 0,.slice (some ⟨w3.heap.size,0,none⟩) 1 1,.slice (some ⟨w5.heap.size,0,none⟩) 2 2] 26))) hb6;have k6:=thn3 k5 (bel1 w6 (.cells #[.string ⟨#[123,97,58,105,125]⟩,.string ⟨#[123,97,58,108,44,98,58,115,61,34,45,34,125]⟩] 9));have F6:=(zab (((show RowIs ((w5.alloc (.cells #[.int .i64 1,.int .i64 0,.int .i64 1,.slice (some ⟨g1,0,none⟩) 2 2,.int .i64 1,.int .i64 0,.int .i64 1,.slice (some ⟨g2,0,none⟩) 2 2] 60)).alloc (.cells #[.slice none 0 0,.slice (some ⟨w3.heap.size,0,none⟩) 1 1,.slice (some ⟨w5.heap.size,0,none⟩) 2 2] 26)) (w5.alloc (.cells #[.int .i64 1,.int .i64 0,.int .i64 1,.slice (some ⟨g1,0,none⟩) 2 2,.int .i64 1,.int .i64 0,.int .i64 1,.slice (some ⟨g2,0,none⟩) 2 2] 60)).heap.size 26 [.slice none 0 0,.slice (some ⟨w3.heap.size,0,none⟩) 1 1,.slice (some ⟨w5.heap.size,0,none⟩) 2 2] from zbs _ _).keep hb6).keep (bel1 w6 (.cells #[.string ⟨#[123,97,58,105,125]⟩,.string ⟨#[123,97,58,108,44,98,58,115,61,34,45,34,125]⟩] 9))));rw [show (w5.alloc (.cells #[.int .i64 1,.int .i64 0,.int .i64 1,.slice (some ⟨g1,0,none⟩) 2 2,.int .i64 1,.int .i64 0,.int .i64 1,.slice (some ⟨g2,0,none⟩) 2 2] 60)).heap.size = w5.heap.size + 1 by simp] at F6;have y0:=F6.out.cell (j:=0) rfl;have y1:=F6.out.cell (j:=1) rfl;have y2:=F6.out.cell (j:=2) rfl;have x0:=F6.out.frozen 0;have K4:=thn3 (thn3 (thn3 (thn3 hb1 hb2) hb3) (bel1 w3 (.cells #[.int .i64 1] 56))) hb4;have Z6:=(zab ((Z0.out.keep (thn3 (thn3 (thn3 (thn3 hb1 hb2) hb3) (bel1 w3 (.cells #[.int .i64 1] 56))) hb4)).keep (thn3 hb5 k6)));have lF:=F6.out.lt;have lZ:=Z6.out.lt;have lw:=(Z0.out.keep K4).lt;have l5:=hb5.size;have hne : w5.heap.size + 1 ≠ w.heap.size:=(by omega);have Z7:=(zab ((Z6.out.setOther (p:=⟨w5.heap.size + 1,0,none⟩) (by exact hne) (.slice (some ⟨w6.heap.size,0,none⟩) 2 2)).keep (bel1 _ (.cells #[.int .i64 1,.int .i64 1,.int .i64 0,.int .i64 1] 45))));have v0:=Z7.out.cell (j:=0) rfl;have v1:=Z7.out.cell (j:=1) rfl;have v2:=Z7.out.cell (j:=2) rfl;have u0:=Z7.out.frozen 0;have u1:=Z7.out.frozen 1;have u2:=Z7.out.frozen 2)
  | (go_at_call 30;have hq:=hb2;refine (p2 _).mono ?_;rintro e w3 ⟨rfl,hb3⟩)
  | (go_at_call 30;have hq:=hb1;refine (p2 _).mono ?_;rintro e w2 ⟨rfl,hb2⟩)
  | (go_at_call 30;refine (p1 _).mono ?_;rintro e w1 ⟨rfl,hb1⟩)
  | (go_at_call 31;refine (c1 _).mono ?_;rintro e w4 ⟨g1,a1,a2,rfl,hr1,hr2,hr3,hb4⟩)
  | (go_at_call 32;refine (c2 _).mono ?_;rintro e w5 ⟨g2,a3,a4,rfl,hr4,hr5,hr6,hb5⟩))
 have Z8:=((Z7.out.set 0 (.slice (some ⟨w6.heap.size,0,none⟩) 2 2)).set 1 (.slice (some ⟨w3.heap.size,0,none⟩) 1 1)).set 2 (.slice (some ⟨w5.heap.size,0,none⟩) 2 2)
 have o0:=Z8.cell (j:=0) rfl
 have o1:=Z8.cell (j:=1) rfl
 have o2:=Z8.cell (j:=2) rfl
 refine bodyPost_ret (v:=.tuple #[.agg #[.slice (some ⟨w6.heap.size,0,none⟩) 2 2,.slice (some ⟨w3.heap.size,0,none⟩) 1 1,.slice (some ⟨w5.heap.size,0,none⟩) 2 2],.slice (some ⟨w6.heap.size + 1,0,none⟩) 2 2]) (by simp [results,Try.results15,go_sem,o0,o1,o2]) rfl ?_
 have z6:=hb6.size
 have tr : ∀ {b : Nat} {t : TypeId} {cs : List Value},RowIs (w6.alloc (.cells #[.string ⟨#[123,97,58,105,125]⟩,.string ⟨#[123,97,58,108,44,98,58,115,61,34,45,34,125]⟩] 9)) b t cs -> t ≠ 26 -> RowIs (((((w6.alloc (.cells #[.string ⟨#[123,97,58,105,125]⟩,.string ⟨#[123,97,58,108,44,98,58,115,61,34,45,34,125]⟩] 9)).setCell ⟨w5.heap.size + 1,0,none⟩ (.slice (some ⟨w6.heap.size,0,none⟩) 2 2)).alloc (.cells #[.int .i64 1,.int .i64 1,.int .i64 0,.int .i64 1] 45)).setCell ⟨w.heap.size,0,none⟩ (.slice (some ⟨w6.heap.size,0,none⟩) 2 2)).setCell ⟨w.heap.size,1,none⟩ (.slice (some ⟨w3.heap.size,0,none⟩) 1 1) |>.setCell ⟨w.heap.size,2,none⟩ (.slice (some ⟨w5.heap.size,0,none⟩) 2 2)) b t cs:=fun {b t cs} h ht => by
  have n1:=h.ne F6.out ht
  have n2:=h.ne Z6.out ht
  exact ((((h.setOther (by exact n1.symm) _).keep (bel1 _ (.cells #[.int .i64 1,.int .i64 1,.int .i64 0,.int .i64 1] 45))).setOther (by exact n2.symm) _).setOther (by exact n2.symm) _).setOther (by exact n2.symm) _
 have rT:=tr (((((show RowIs (w3.alloc (.cells #[.int .i64 1] 56)) w3.heap.size 56 [.int .i64 1] from zbs _ _).keep hb4).keep hb5).keep k6)) (by decide)
 have rS:=tr (((((show RowIs (w5.alloc (.cells #[.int .i64 1,.int .i64 0,.int .i64 1,.slice (some ⟨g1,0,none⟩) 2 2,.int .i64 1,.int .i64 0,.int .i64 1,.slice (some ⟨g2,0,none⟩) 2 2] 60)) w5.heap.size 60 [.int .i64 1,.int .i64 0,.int .i64 1,.slice (some ⟨g1,0,none⟩) 2 2,.int .i64 1,.int .i64 0,.int .i64 1,.slice (some ⟨g2,0,none⟩) 2 2] from zbs _ _).keep (bel1 _ (.cells #[.slice none 0 0,.slice (some ⟨w3.heap.size,0,none⟩) 1 1,.slice (some ⟨w5.heap.size,0,none⟩) 2 2] 26))).keep hb6).keep (bel1 w6 (.cells #[.string ⟨#[123,97,58,105,125]⟩,.string ⟨#[123,97,58,108,44,98,58,115,61,34,45,34,125]⟩] 9)))) (by decide)
 have rC:=tr (show RowIs (w6.alloc (.cells #[.string ⟨#[123,97,58,105,125]⟩,.string ⟨#[123,97,58,108,44,98,58,115,61,34,45,34,125]⟩] 9)) w6.heap.size 9 [.string ⟨#[123,97,58,105,125]⟩,.string ⟨#[123,97,58,108,44,98,58,115,61,34,45,34,125]⟩] from zbs _ _) (by decide)
 have q1:=zi5 (tr ((hr1.keep hb5).keep k6) (by decide)) (tr ((hr2.keep hb5).keep k6) (by decide)) (tr ((hr3.keep hb5).keep k6) (by decide))
 have q2:=zi5 (tr (hr4.keep k6) (by decide)) (tr (hr5.keep k6) (by decide)) (tr (hr6.keep k6) (by decide))
 have zs : ((w6.alloc (.cells #[.string ⟨#[123,97,58,105,125]⟩,.string ⟨#[123,97,58,108,44,98,58,115,61,34,45,34,125]⟩] 9)).setCell ⟨w5.heap.size + 1,0,none⟩ (.slice (some ⟨w6.heap.size,0,none⟩) 2 2)).heap.size = w6.heap.size + 1:=by simp [World.setCell]
 have rM : RowIs (((((w6.alloc (.cells #[.string ⟨#[123,97,58,105,125]⟩,.string ⟨#[123,97,58,108,44,98,58,115,61,34,45,34,125]⟩] 9)).setCell ⟨w5.heap.size + 1,0,none⟩ (.slice (some ⟨w6.heap.size,0,none⟩) 2 2)).alloc (.cells #[.int .i64 1,.int .i64 1,.int .i64 0,.int .i64 1] 45)).setCell ⟨w.heap.size,0,none⟩ (.slice (some ⟨w6.heap.size,0,none⟩) 2 2)).setCell ⟨w.heap.size,1,none⟩ (.slice (some ⟨w3.heap.size,0,none⟩) 1 1) |>.setCell ⟨w.heap.size,2,none⟩ (.slice (some ⟨w5.heap.size,0,none⟩) 2 2)) (w6.heap.size + 1) 45 [.int .i64 1,.int .i64 1,.int .i64 0,.int .i64 1]:=by
  have h:=zbs ((w6.alloc (.cells #[.string ⟨#[123,97,58,105,125]⟩,.string ⟨#[123,97,58,108,44,98,58,115,61,34,45,34,125]⟩] 9)).setCell ⟨w5.heap.size + 1,0,none⟩ (.slice (some ⟨w6.heap.size,0,none⟩) 2 2)) (.cells #[.int .i64 1,.int .i64 1,.int .i64 0,.int .i64 1] 45)
  rw [zs] at h
  have hn : w.heap.size ≠ w6.heap.size + 1:=by simp at lZ;omega
  exact (((show RowIs _ (w6.heap.size + 1) 45 [.int .i64 1,.int .i64 1,.int .i64 0,.int .i64 1] from h).setOther (by exact hn) _).setOther (by exact hn) _).setOther (by exact hn) _
 have kW:=thn3 (thn3 (thn3 (bel1 w _) K4) hb5) k6
 have hlw : w.heap.size <= w5.heap.size + 1:=by omega
 refine ⟨w6.heap.size,w3.heap.size,w5.heap.size,w6.heap.size + 1,rfl,⟨rfl,by decide,fun s hs => ?_,fun i s hi => ?_,rfl,by decide,fun i x hi => ?_,rfl,by decide,fun i v hi => ?_⟩,fun i m hi => ?_,?_⟩
 ·simp [flt0] at hs
  rcases hs with rfl | rfl <;> decide
 ·have hl:=(List.getElem?_eq_some_iff.1 hi).1
  have : i = 0 \/ i = 1:=by simp [flt0] at hl;omega
  rcases this with rfl | rfl
  ·simp [flt0] at hi;subst hi
   exact ⟨_,0,rfl,rC.cell (j:=0) rfl⟩
  ·simp [flt0] at hi;subst hi
   exact ⟨_,0,rfl,rC.cell (j:=1) rfl⟩
 ·have hl:=(List.getElem?_eq_some_iff.1 hi).1
  have : i = 0:=by simpa [flt0] using hl
  subst this
  simp [flt0] at hi;subst hi
  exact ⟨_,0,rfl,rT.cell (j:=0) rfl⟩
 ·have hl:=(List.getElem?_eq_some_iff.1 hi).1
  have : i = 0 \/ i = 1:=by simp [flt0] at hl;omega
  rcases this with rfl | rfl
  ·simp [flt0] at hi;subst hi
   exact ⟨_,0,_,_,_,rfl,rS.cell (j:=0) rfl,rS.cell (j:=1) rfl,rS.cell (j:=2) rfl,rS.cell (j:=3) rfl,q1⟩
  ·simp [flt0] at hi;subst hi
   exact ⟨_,0,_,_,_,rfl,rS.cell (j:=4) rfl,rS.cell (j:=5) rfl,rS.cell (j:=6) rfl,rS.cell (j:=7) rfl,q2⟩
 ·have hl:=(List.getElem?_eq_some_iff.1 hi).1
  have : i = 0 \/ i = 1:=by simp at hl;omega
  rcases this with rfl | rfl
  ·simp at hi;subst hi
   exact ⟨_,0,rfl,rM.cell (j:=0) rfl,rM.cell (j:=1) rfl⟩
  ·simp at hi;subst hi
   exact ⟨_,0,rfl,rM.cell (j:=2) rfl,rM.cell (j:=3) rfl⟩
 ·exact (((thn3 (kW.setCell (p:=⟨w5.heap.size + 1,0,none⟩) hlw _) (bel1 _ (.cells #[.int .i64 1,.int .i64 1,.int .i64 0,.int .i64 1] 45))).setCell (p:=⟨w.heap.size,0,none⟩) (Nat.le_refl _) _).setCell (p:=⟨w.heap.size,1,none⟩) (Nat.le_refl _) _).setCell (p:=⟨w.heap.size,2,none⟩) (Nat.le_refl _) _
end
section
open Go.RowKit
end
section
open Go.RowKit
end
section
open Go.RowKit
theorem NowL.set {w : World} {B g cap n : Nat} {l : List Int} (h : NowL w B g cap n l) (x : Nat) (y : Int) : NowL (w.setCell ⟨g,x,none⟩ (.int .i64 y)) B g cap n (l.set x y):=by
 unfold NowL intC
 rw [List.map_set]
 exact (World.ownsRow.stored h _ _).1
theorem zff {w : World} {g k b o : Nat} {v u : Value} (hb : g ≠ b) (h : w.cell? ⟨b,o,none⟩ = some v) : (w.setCell ⟨g,k,none⟩ u).cell? ⟨b,o,none⟩ = some v:=by
 rw [World.cell?_setCell_other (h:=fun e => hb (by cases e;rfl))];exact h
end
section
open Go.RowKit
end
section
open Go.RowKit
end
section
open Go.RowKit
end
section
open Go.RowKit
end
section
open Go.RowKit
end
section
open Go.RowKit
theorem zem {w : World} {base n : Nat} {v : Value} {ms : List (Int × Int)} (h : w.ownsRow base 45 2 v n (mvC ms)) (hl : ms.length = n) : ∃ a c,v = .slice a n c /\ MvsAt w a ms:=by
 have h0:=h
 rcases h.2 with ⟨hv,hn⟩ | ⟨g,cap,cur,hv,_⟩
 ·subst hn
  have : ms = []:=List.eq_nil_of_length_eq_zero hl
  subst this
  exact ⟨none,0,hv,fun i m hi => by simp at hi⟩
 ·subst hv
  refine ⟨some ⟨g,0,none⟩,cap,rfl,fun i m hi => ⟨g,0,rfl,?_,?_⟩⟩
  ·have hc:=zfs hi []
   rw [List.append_nil] at hc
   have:=(List.getElem?_eq_some_iff.1 hi).1
   rw [Nat.zero_add,h0.cellAt _ (by omega)];exact hc.1
  ·have hc:=zfs hi []
   rw [List.append_nil] at hc
   have:=(List.getElem?_eq_some_iff.1 hi).1
   rw [Nat.zero_add,h0.cellAt _ (by omega)];exact hc.2
theorem zkp (f0 : zad) (hs : zak f0 [(1,1),(0,1)] = (2,0)) (hp : PlanIs f0 512 [(1,1),(0,1)] 0) (ht : ∀ W,Calls Try.prog 15 #[.int .i64 0,.int .i64 0,.int .i64 0,.int .i64 0] W fun e W' => ∃ gs gt gv gm,e = .returned (.tuple #[.agg #[.slice (some ⟨gs,0,none⟩) 2 2,.slice (some ⟨gt,0,none⟩) 1 1,.slice (some ⟨gv,0,none⟩) 2 2],.slice (some ⟨gm,0,none⟩) 2 2]) /\ FleetAt W' (some ⟨gs,0,none⟩) 2 2 (some ⟨gt,0,none⟩) 1 1 (some ⟨gv,0,none⟩) 2 2 f0 /\ MvsAt W' (some ⟨gm,0,none⟩) [(1,1),(0,1)] /\ Below W.heap.size W W') (w : World) : Calls Try.prog 5 #[] w fun e W => e = .returned (.bool true) /\ Below w.heap.size w W:=by
 have c1:=fun (W : World) (h : Below w.heap.size w W) => ht W
 have c2:=fun (gs gt gv : Nat) (W : World) (h : FleetAt W (some ⟨gs,0,none⟩) 2 2 (some ⟨gt,0,none⟩) 1 1 (some ⟨gv,0,none⟩) 2 2 f0) => zd4 f0 _ _ _ _ _ _ _ _ _ 512 W h
 have c3:=fun (gs gt gv gm : Nat) (W : World) (h : FleetAt W (some ⟨gs,0,none⟩) 2 2 (some ⟨gt,0,none⟩) 1 1 (some ⟨gv,0,none⟩) 2 2 f0) (hm : MvsAt W (some ⟨gm,0,none⟩) [(1,1),(0,1)]) => zbw f0 _ _ _ _ _ _ _ _ _ [(1,1),(0,1)] (some ⟨gm,0,none⟩) 2 W h (by decide) hm
 rw [hs] at c3
 go_enter Try.func5,Try.ntmps5
 go_wp2_with (first
  | (go_at_call 15;refine (c1 _ (by first | exact Below.refl _ _ | exact bel1 _ _)).mono ?_;rintro e w1 ⟨gs,gt,gv,gm,rfl,hF,hM,hb1⟩;have HF:= zab hF;have HM:=(zab hM))
  | (go_at_call 12;refine (c2 gs gt gv _ (HF.out.keep (bel1 _ _))).mono ?_;rintro e w2 ⟨⟨u,ms,err,rfl,hown,hPI⟩,hb2⟩;obtain ⟨rfl,rfl⟩:=hPI.uniq hp;obtain ⟨pa,pc,rfl,hM2⟩:=zem hown rfl;have HM2:= zab hM2;have HF2:=(zab ((HF.out.keep (bel1 _ _)).keep hb2));have HM1:=(zab ((HM.out.keep (bel1 _ _)).keep hb2));have f2:=zag hb2 (box3 w1 _ _ _ _))
  | (go_at_call 6;refine (c3 gs gt gv gm _ HF2.out HM1.out).mono ?_;rintro e w3 ⟨rfl,hb3⟩;have HA:=(zab (HM1.out.keep hb3));have HB:=(zab (HM2.out.keep hb3))))
 have hB3:=thn3 (thn3 (thn3 hb1 (bel1 _ _)) hb2) hb3
 clear c1 c2 c3 ht hs hp
 go_loopw [7] (fun vi wr => ∃ i : Nat,i <= 2 /\ vi = .int .i64 i /\ Below w3.heap.size w3 wr) (fun i _ => 2 - (intOf i).toNat)
 case atStart => exact ⟨0,Nat.zero_le _,rfl,Below.refl _ _⟩
 case round =>
  obtain ⟨i,hi,rfl,hb5⟩:=hrel
  rename World => w5
  have hx0 := znn i
  by_cases hlt : i < 2
  ·obtain ⟨m,hmi⟩ : ∃ m,([(1,1),(0,1)] : List (Int × Int))[i]? = some m:=⟨([(1,1),(0,1)] : List (Int × Int))[i]'hlt,List.getElem?_eq_getElem _⟩
   obtain ⟨b1,o1,rfl,k0,k1⟩:=HB.out i m hmi
   obtain ⟨b2,o2,hbb,l0,l1⟩:=HA.out i m hmi
   cases hbb
   have k0:=zaa hb5 k0
   have k1:=zaa hb5 k1
   have l0:=zaa hb5 l0
   have l1:=zaa hb5 l1
   have hx1 : (i : Int) < 2:=by omega
   obtain ⟨mx,my⟩:=m
   simp only [Nat.zero_add] at k0 k1 l0 l1
   have d1 : (mx == mx) = true:=by simp
   have d2 : (mx != mx) = false:=by simp
   have d3 : decide (mx = mx) = true:=by simp
   have e1 : (my == my) = true:=by simp
   have e2 : (my != my) = false:=by simp
   have e3 : decide (my = my) = true:=by simp
   clear hmi
   go_wp2_with fail
   go_quiet (fail)
   go_wp2_with fail
   go_roundw
   case rel => exact ⟨i + 1,by omega,by go_num,below_drewN hb5 _⟩
   case measure => simp [intOf];omega
  ·obtain rfl : i = 2:=by omega
   go_wp2_with fail
   go_ret
   exact ⟨rfl,thn3 hB3 hb5⟩
theorem zko (w : World) : Calls Try.prog 5 #[] w fun e W => e = .returned (.bool true) /\ Below w.heap.size w W:=by
 obtain ⟨f0,hf,h1,h2⟩:=zn4
 have h3:=zoz
 rw [<- hf] at h3
 exact zkp f0 h1 h2 h3 w
end
section
open Go.RowKit
def Rows9 (w : World) (B : Nat) (bs : List Nat) (M : List (List Bool)) : Prop:=bs.length = M.length /\ ∀ (i b : Nat) (r : List Bool),bs[i]? = some b -> M[i]? = some r -> B <= b /\ RowIs w b 4 (r.map .bool)
theorem Rows9.keep {w w' : World} {B : Nat} {bs : List Nat} {M : List (List Bool)} (h : Rows9 w B bs M) (hk : ∀ b cs,B <= b -> RowIs w b 4 cs -> RowIs w' b 4 cs) : Rows9 w' B bs M :=
 ⟨h.1,fun i b r hb hr => ⟨(h.2 i b r hb hr).1,hk _ _ (h.2 i b r hb hr).1 (h.2 i b r hb hr).2⟩⟩
theorem Rows9.snoc {w : World} {B : Nat} {bs : List Nat} {M : List (List Bool)} (h : Rows9 w B bs M) {b : Nat} {r : List Bool} (hb : B <= b) (hr : RowIs w b 4 (r.map .bool)) : Rows9 w B (bs ++ [b]) (M ++ [r]):=by
 refine ⟨by simp [h.1],fun i b' r' h1 h2 => ?_⟩
 by_cases hl : i < bs.length
 ·rw [List.getElem?_append_left hl] at h1
  rw [List.getElem?_append_left (by rw [<- h.1];exact hl)] at h2
  exact h.2 i b' r' h1 h2
 ·have:=(List.getElem?_eq_some_iff.1 h1).1
  rw [List.length_append,List.length_singleton] at this
  have hi : i = bs.length:=by omega
  subst hi
  rw [List.getElem?_append_right (Nat.le_refl _),Nat.sub_self] at h1
  rw [List.getElem?_append_right (by rw [h.1];exact Nat.le_refl _),h.1,Nat.sub_self] at h2
  simp at h1 h2
  subst h1 h2
  exact ⟨hb,hr⟩
def slC (n : Nat) (bs : List Nat) : List Value:=bs.map fun b => .slice (some ⟨b,0,none⟩) n n
theorem zmb {S : Nat -> Prop} {w : World} {base B n m : Nat} {vf : Value} {bs : List Nat} {M : List (List Bool)} (hown : w.ownsRow base 61 1 vf n (slC m bs)) (hrows : Rows9 w B bs M) (hM : ∀ r ∈ M,r.length = m) (hlen : M.length = n) (hS : ∀ k,vf.ownBlock = some k -> S k) (hS2 : ∀ b ∈ bs,S b) : ∃ (fa : Option Addr) (fc : Nat),vf = .slice fa n fc /\ MatS S w fa M:=by
 have hown0:=hown
 obtain ⟨hl,h | ⟨g',cap',cur,hv',hb,hh,hc,hm,hs,ht'⟩⟩:=hown
 ·obtain ⟨h,h0⟩:=h
  have hn0 : n = 0:=by simpa using h0
  subst hn0
  refine ⟨none,0,h,fun i r hi => ?_⟩
  rw [List.length_eq_zero_iff.1 hlen] at hi
  simp at hi
 ·refine ⟨some ⟨g',0,none⟩,cap',hv',fun i r hi => ?_⟩
  have hil:=(List.getElem?_eq_some_iff.1 hi).1
  obtain ⟨b,hbi⟩ : ∃ b,bs[i]? = some b:=⟨bs[i]'(by rw [hrows.1];exact hil),List.getElem?_eq_getElem (by rw [hrows.1];exact hil)⟩
  obtain ⟨_,hr⟩:=hrows.2 i b r hbi hi
  subst hv'
  refine ⟨g',0,b,m,hS g' rfl,hS2 b (List.mem_of_getElem? hbi),rfl,?_,fun j x hj => hr.cell (by rw [List.getElem?_map,hj];rfl)⟩
  rw [hM r (List.mem_of_getElem? hi),Nat.zero_add]
  exact za2 hown0 (by rw [slC,List.getElem?_map,hbi];rfl)
def plN (p : Nat × Nat) : Nat:=p.1 * 3 + p.2
def mG (E : List (List Bool)) (x y : Nat) : Bool:=(E.getD x []).getD y false
def Mto (L : List (Nat × Nat)) (H : Nat -> Nat -> Bool) (i j : Nat) (E : List (List Bool)) : Prop:=(E.length = 9 /\ ∀ r ∈ E,r.length = 9) /\ ∀ i' j' p q,L[i']? = some p -> L[j']? = some q -> i' < i \/ (i' = i /\ j' < j) -> mG E (plN p) (plN q) = H (plN p) (plN q)
def Mok (L : List (Nat × Nat)) (H : Nat -> Nat -> Bool) (E : List (List Bool)) : Prop:=(E.length = 9 /\ ∀ r ∈ E,r.length = 9) /\ ∀ p q,p ∈ L -> q ∈ L -> mG E (plN p) (plN q) = H (plN p) (plN q)
theorem Mto.ok {L : List (Nat × Nat)} {H : Nat -> Nat -> Bool} {E : List (List Bool)} (h : Mto L H L.length 0 E) : Mok L H E:=⟨h.1,fun p q hp hq => by
 obtain ⟨i,hi⟩:=List.getElem?_of_mem hp
 obtain ⟨j,hj⟩:=List.getElem?_of_mem hq
 exact h.2 i j p q hi hj (.inl (List.getElem?_eq_some_iff.1 hi).1)⟩
theorem Mto.row {L : List (Nat × Nat)} {H : Nat -> Nat -> Bool} {i : Nat} {E : List (List Bool)} (h : Mto L H i L.length E) : Mto L H (i + 1) 0 E:=⟨h.1,fun i' j' p q hp hq hlt => h.2 i' j' p q hp hq (by
 have:=(List.getElem?_eq_some_iff.1 hq).1
 rcases hlt with h | h <;> omega)⟩
def mSet (E : List (List Bool)) (x y : Nat) (v : Bool) : List (List Bool):=E.set x ((E.getD x []).set y v)
theorem zma {E : List (List Bool)} {x y x' y' : Nat} {v : Bool} (hE : E.length = 9) (hr : ∀ r ∈ E,r.length = 9) (hx : x < 9) (hy : y < 9) : mG (mSet E x y v) x' y' = if x = x' /\ y = y' then v else mG E x' y':=by
 unfold mG mSet
 have hl : (E.getD x []).length = 9:=by rw [List.getD,List.getElem?_eq_getElem (by omega)];exact hr _ (List.getElem_mem _)
 by_cases h1 : x = x'
 ·subst h1
  rw [show (E.set x ((E.getD x []).set y v)).getD x [] = (E.getD x []).set y v by rw [List.getD,List.getElem?_set,if_pos rfl,if_pos (by omega)];rfl]
  rw [List.getD,List.getElem?_set]
  by_cases h2 : y = y'
  ·rw [if_pos h2,if_pos (by omega),if_pos ⟨rfl,h2⟩];rfl
  ·rw [if_neg h2,if_neg (fun h => h2 h.2)];rfl
 ·rw [if_neg (fun h => h1 h.1)]
  congr 1
  rw [List.getD,List.getElem?_set,if_neg h1];rfl
theorem Mto.step {L : List (Nat × Nat)} {H : Nat -> Nat -> Bool} {i j : Nat} {E : List (List Bool)} (h : Mto L H i j E) {p q : Nat × Nat} (hp : L[i]? = some p) (hq : L[j]? = some q) (hx : plN p < 9) (hy : plN q < 9) : Mto L H i (j + 1) (mSet E (plN p) (plN q) (H (plN p) (plN q))):=by
 refine ⟨⟨by simp [mSet,h.1.1],fun r hr => ?_⟩,fun i' j' p' q' hp' hq' hlt => ?_⟩
 ·rcases List.mem_or_eq_of_mem_set hr with h' | h'
  ·exact h.1.2 r h'
  ·rw [h',List.length_set,List.getD,List.getElem?_eq_getElem (by rw [h.1.1];exact hx)];exact h.1.2 _ (List.getElem_mem _)
 ·rw [zma h.1.1 h.1.2 hx hy]
  by_cases hc : plN p = plN p' /\ plN q = plN q'
  ·rw [if_pos hc,hc.1,hc.2]
  ·rw [if_neg hc]
   refine h.2 i' j' p' q' hp' hq' ?_
   rcases hlt with h' | ⟨h1,h2⟩
   ·exact .inl h'
   ·by_cases hj : j' = j
    ·subst h1;subst hj
     rw [hp] at hp';rw [hq] at hq'
     cases hp';cases hq'
     exact absurd ⟨rfl,rfl⟩ hc
    ·exact .inr ⟨h1,by omega⟩
def MatR (w : World) (bs : List Nat) (M : List (List Bool)) : Prop:=bs.length = 9 /\ (M.length = 9 /\ ∀ r ∈ M,r.length = 9) /\ ∀ (i b : Nat) (r : List Bool),bs[i]? = some b -> M[i]? = some r -> RowIs w b 4 (r.map .bool)
theorem MatR.keep {w w' : World} {bs : List Nat} {M : List (List Bool)} (h : MatR w bs M) (hk : ∀ b cs,b ∈ bs -> RowIs w b 4 cs -> RowIs w' b 4 cs) : MatR w' bs M :=
 ⟨h.1,h.2.1,fun i b r hb hr => hk _ _ (List.mem_of_getElem? hb) (h.2.2 i b r hb hr)⟩
theorem MatR.set {w : World} {bs : List Nat} {M : List (List Bool)} (h : MatR w bs M) {x y b : Nat} (v : Bool) (hb : bs[x]? = some b) (hnd : bs.Nodup) (hx : x < 9) (hy : y < 9) : MatR (w.setCell ⟨b,y,none⟩ (.bool v)) bs (mSet M x y v):=by
 have hxl : x < M.length:=by rw [h.2.1.1];exact hx
 have hg : M.getD x [] = M[x]:=by rw [List.getD,List.getElem?_eq_getElem hxl];rfl
 refine ⟨h.1,⟨by simp [mSet,h.2.1.1],fun r hr => ?_⟩,fun i b' r hb' hr => ?_⟩
 ·rcases List.mem_or_eq_of_mem_set hr with h' | h'
  ·exact h.2.1.2 r h'
  ·rw [h',List.length_set,hg];exact h.2.1.2 _ (List.getElem_mem _)
 ·unfold mSet at hr
  rw [List.getElem?_set] at hr
  by_cases hix : x = i
  ·subst hix
   rw [if_pos rfl,if_pos hxl] at hr
   cases hr
   rw [hb] at hb';cases hb'
   rw [hg,List.map_set]
   exact (h.2.2 x b _ hb (List.getElem?_eq_getElem hxl)).set y (.bool v)
  ·rw [if_neg hix] at hr
   refine (h.2.2 i b' r hb' hr).setOther (fun e => hix ?_) _
   have e' : b = b':=e
   subst e'
   exact (List.getElem?_inj (List.getElem?_eq_some_iff.1 hb).1 hnd).1 (hb.trans hb'.symm)
theorem MatR.at {w : World} {bs : List Nat} {M : List (List Bool)} (h : MatR w bs M) {base : Nat} {v : Value} (ho : w.ownsRow base 61 1 v 9 (slC 9 bs)) : ∃ (a : Option Addr) (c : Nat),v = .slice a 9 c /\ MatAt w a M:=by
 obtain ⟨fa,fc,h1,h2⟩:=zmb (S:=fun _ => True) (B:=0) ho ⟨by rw [h.1,h.2.1.1],fun i b r hb hr => ⟨Nat.zero_le _,h.2.2 i b r hb hr⟩⟩ h.2.1.2 h.2.1.1 (fun _ _ => trivial) (fun _ _ => trivial)
 exact ⟨fa,fc,h1,h2.at⟩
theorem MatR.row {w : World} {bs : List Nat} {M : List (List Bool)} (h : MatR w bs M) {b : Nat} (hb : b ∈ bs) : ∃ cs,RowIs w b 4 cs:=by
 obtain ⟨i,hi⟩:=List.getElem?_of_mem hb
 have hil:=(List.getElem?_eq_some_iff.1 hi).1
 obtain ⟨r,hr⟩ : ∃ r,M[i]? = some r:=⟨M[i]'(by rw [h.2.1.1,<- h.1];exact hil),List.getElem?_eq_getElem _⟩
 exact ⟨_,h.2.2 i b r hi hr⟩
end
section
open Go.RowKit
structure LookAt (W : World) (g : Nat) (sa : Option Addr) (sl sc : Nat) (ta : Option Addr) (tl tc : Nat) (va : Option Addr) (vl vc : Nat) (f : zad) (E K : List (List Bool)) : Prop where
 fl : FleetAt W sa sl sc ta tl tc va vl vc f
 c0 : W.cell? ⟨g,0,none⟩ = some (.slice sa sl sc)
 c1 : W.cell? ⟨g,1,none⟩ = some (.slice ta tl tc)
 c2 : W.cell? ⟨g,2,none⟩ = some (.slice va vl vc)
 E4 : ∃ ea ec,W.cell? ⟨g,4,none⟩ = some (.slice ea 9 ec) /\ MatAt W ea E
 K5 : ∃ ka kc,W.cell? ⟨g,5,none⟩ = some (.slice ka 9 kc) /\ MatAt W ka K
 okE : Mok (prs f.vs) (eB f) E
 okK : Mok (prs f.vs) (kB f) K
theorem LookAt.keep {W W' : World} (hb : Below W.heap.size W W') {g : Nat} {sa ta va : Option Addr} {sl sc tl tc vl vc : Nat} {f : zad} {E K : List (List Bool)} (h : LookAt W g sa sl sc ta tl tc va vl vc f E K) : LookAt W' g sa sl sc ta tl tc va vl vc f E K :=
 ⟨h.fl.keep hb,zaa hb h.c0,zaa hb h.c1,zaa hb h.c2,by obtain ⟨a,c,h1,h2⟩:=h.E4;exact ⟨a,c,zaa hb h1,h2.keep hb⟩,by obtain ⟨a,c,h1,h2⟩:=h.K5;exact ⟨a,c,zaa hb h1,h2.keep hb⟩,h.okE,h.okK⟩
theorem Mok.get {L : List (Nat × Nat)} {H : Nat -> Nat -> Bool} {E : List (List Bool)} (h : Mok L H E) {x y : Nat} (hx : x < 9) (hy : y < 9) : ∃ r,E[x]? = some r /\ r.length = 9 /\ r[y]? = some (mG E x y):=by
 have hxl : x < E.length:=by rw [h.1.1];exact hx
 refine ⟨E[x],List.getElem?_eq_getElem hxl,h.1.2 _ (List.getElem_mem _),?_⟩
 have hl : E[x].length = 9:=h.1.2 _ (List.getElem_mem _)
 unfold mG
 rw [show E.getD x [] = E[x] by rw [List.getD,List.getElem?_eq_getElem hxl];rfl,List.getD,List.getElem?_eq_getElem (show y < E[x].length by omega)];rfl
end
section
open Go.RowKit
def PrAt (w : World) (a : Option Addr) (l : List (Nat × Nat)) : Prop:=∀ i q,l[i]? = some q -> ∃ b,a = some ⟨b,0,none⟩ /\ w.cell? ⟨b,i * 2,none⟩ = some (.int .i64 q.1) /\ w.cell? ⟨b,i * 2 + 1,none⟩ = some (.int .i64 q.2)
theorem PrAt.keep {w w' : World} (hb : Below w.heap.size w w') {a : Option Addr} {l : List (Nat × Nat)} (h : PrAt w a l) : PrAt w' a l:=fun i q hi => by
 obtain ⟨b,h1,h2,h3⟩:=h i q hi
 exact ⟨b,h1,zaa hb h2,zaa hb h3⟩
end
section
open Go.RowKit
def natC (ns : List Nat) : List Value:=ns.map fun (x : Nat) => Value.int .i64 (x : Int)
end
section
open Go.RowKit
structure SE where
 a : Nat
 ca : Nat
 b : Nat
 cb : Nat
 now : List Nat
 had : List Nat
 far : Int
def SeAt (w : World) (m : Nat) (e : SE) : Prop:=e.now.length = m /\ e.had.length = m /\ w.rangeAt e.a 0 (natC e.now) /\ w.rangeAt e.b 0 (natC e.had)
def SesAt (w : World) (m : Nat) (l : List SE) : Prop:=∀ e ∈ l,SeAt w m e
theorem SeAt.keep {w w' : World} (hb : Below w.heap.size w w') {m : Nat} {e : SE} (h : SeAt w m e) : SeAt w' m e:=⟨h.1,h.2.1,zae hb h.2.2.1,zae hb h.2.2.2⟩
theorem SesAt.keep {w w' : World} (hb : Below w.heap.size w w') {m : Nat} {l : List SE} (h : SesAt w m l) : SesAt w' m l:=fun e he => (h e he).keep hb
end
section
open Go.RowKit
theorem lt8 {h : Nat} (hh : h < 8) : h = 0 \/ h = 1 \/ h = 2 \/ h = 3 \/ h = 4 \/ h = 5 \/ h = 6 \/ h = 7:=by omega
theorem lt3 {r : Nat} (hr : r < 3) : r = 0 \/ r = 1 \/ r = 2:=by omega
def bitB (h r : Nat) : Bool:=h / 2 ^ r % 2 == 1
end
section
open Go.RowKit
open Go.Lib (below_setCells)
theorem RowIs.there {w : World} {g : Nat} {t : TypeId} {cs : List Value} (h : RowIs w g t cs) {j : Nat} (hj : j < cs.length) : w.there g j 1:=fun k hk => by
 obtain rfl : k = 0:=by omega
 rw [Nat.add_zero]
 exact ⟨by rw [h.cell (List.getElem?_eq_getElem hj)];rfl,h.frozen j⟩
def nowS (xs : List Nat) (a r s : Nat) : List Nat:=(List.range s).map fun i => if i = a then r else xs.getD i 0
def hadS (xs : List Nat) (a r s : Nat) : List Nat:=(List.range s).map fun i => if i = a then xs.getD i 0 ||| 2 ^ r else xs.getD i 0
end
end Go.Proofs.Ytkkekopomiehlab
