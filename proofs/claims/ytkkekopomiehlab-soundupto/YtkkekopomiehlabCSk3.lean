import Derived.Test.YtkkekopomiehlabCSo3
set_option linter.unusedVariables false
set_option linter.unusedSimpArgs false
set_option maxHeartbeats 40000000
set_option maxRecDepth 4000
namespace Go.Proofs.Ytkkekopomiehlab
section
open Go.RowKit
theorem zo3 (w : World) : Calls Try.prog 15 #[.int .i64 0,.int .i64 0,.int .i64 0,.int .i64 0] w fun e W => ∃ gs gt gv gm,e = .returned (.tuple #[.agg #[.slice (some ⟨gs,0,none⟩) 2 2,.slice (some ⟨gt,0,none⟩) 1 1,.slice (some ⟨gv,0,none⟩) 2 2],.slice (some ⟨gm,0,none⟩) 2 2]) /\ FleetAt W (some ⟨gs,0,none⟩) 2 2 (some ⟨gt,0,none⟩) 1 1 (some ⟨gv,0,none⟩) 2 2 flt0 /\ MvsAt W (some ⟨gm,0,none⟩) [(1,1),(0,1)] /\ Below w.heap.size w W:=by
 have Z0 : Hid (RowIs (w.alloc (.cells #[.slice none 0 0,.slice none 0 0,.slice none 0 0] 26)) w.heap.size 26 [.slice none 0 0,.slice none 0 0,.slice none 0 0]):=zbq _ _
 have p1:=fun W => zfz 6 (by omega) (by omega) W
 have p2:=fun W => zfz 3 (by omega) (by omega) W
 have p3:=fun W => zfz 5 (by omega) (by omega) W
 have c1:=fun W => zqa 1 W
 have c2:=fun W => zny 1 W
 go_enter Try.func15,Try.ntmps15
 go_wp2_with (first
  | (go_at_call 30;have hq:=hb5;refine (p3 _).mono ?_;rintro e w6 ⟨rfl,hb6⟩;have k5:=thn3 (thn3 (bel1 w5 (.cells #[.int .i64 1,.int .i64 0,.int .i64 1,.slice (some ⟨g1,0,none⟩) 2 2,.int .i64 1,.int .i64 0,.int .i64 1,.slice (some ⟨g2,0,none⟩) 2 2] 60)) (bel1 _ (.cells #[.slice none 0 0,.slice (some ⟨w3.heap.size,0,none⟩) 1 1,.slice (some ⟨w5.heap.size,0,none⟩) 2 2] 26))) hb6;have k6:=thn3 k5 (bel1 w6 (.cells #[.string ⟨#[123,97,58,105,125]⟩,.string ⟨#[123,97,58,108,44,98,58,115,61,34,45,34,125]⟩] 9));have F6:=(zab (((show RowIs ((w5.alloc (.cells #[.int .i64 1,.int .i64 0,.int .i64 1,.slice (some ⟨g1,0,none⟩) 2 2,.int .i64 1,.int .i64 0,.int .i64 1,.slice (some ⟨g2,0,none⟩) 2 2] 60)).alloc (.cells #[.slice none 0 0,.slice (some ⟨w3.heap.size,0,none⟩) 1 1,.slice (some ⟨w5.heap.size,0,none⟩) 2 2] 26)) (w5.alloc (.cells #[.int .i64 1,.int .i64 0,.int .i64 1,.slice (some ⟨g1,0,none⟩) 2 2,.int .i64 1,.int .i64 0,.int .i64 1,.slice (some ⟨g2,0,none⟩) 2 2] 60)).heap.size 26 [.slice none 0 0,.slice (some ⟨w3.heap.size,0,none⟩) 1 1,.slice (some ⟨w5.heap.size,0,none⟩) 2 2] from zbq _ _).keep hb6).keep (bel1 w6 (.cells #[.string ⟨#[123,97,58,105,125]⟩,.string ⟨#[123,97,58,108,44,98,58,115,61,34,45,34,125]⟩] 9))));rw [show (w5.alloc (.cells #[.int .i64 1,.int .i64 0,.int .i64 1,.slice (some ⟨g1,0,none⟩) 2 2,.int .i64 1,.int .i64 0,.int .i64 1,.slice (some ⟨g2,0,none⟩) 2 2] 60)).heap.size = w5.heap.size + 1 by simp] at F6;have y0:=F6.out.cell (j:=0) rfl;have y1:=F6.out.cell (j:=1) rfl;have y2:=F6.out.cell (j:=2) rfl;have x0:=F6.out.frozen 0;have K4:=thn3 (thn3 (thn3 (thn3 hb1 hb2) hb3) (bel1 w3 (.cells #[.int .i64 1] 56))) hb4;have Z6:=(zab ((Z0.out.keep (thn3 (thn3 (thn3 (thn3 hb1 hb2) hb3) (bel1 w3 (.cells #[.int .i64 1] 56))) hb4)).keep (thn3 hb5 k6)));have lF:=F6.out.lt;have lZ:=Z6.out.lt;have lw:=(Z0.out.keep K4).lt;have l5:=hb5.size;have hne : w5.heap.size + 1 ≠ w.heap.size:=(by omega);have Z7:=(zab ((Z6.out.setOther (p:=⟨w5.heap.size + 1,0,none⟩) (by exact hne) (.slice (some ⟨w6.heap.size,0,none⟩) 2 2)).keep (bel1 _ (.cells #[.int .i64 1,.int .i64 1,.int .i64 0,.int .i64 1] 45))));have v0:=Z7.out.cell (j:=0) rfl;have v1:=Z7.out.cell (j:=1) rfl;have v2:=Z7.out.cell (j:=2) rfl;have u0:=Z7.out.frozen 0;have u1:=Z7.out.frozen 1;have u2:=Z7.out.frozen 2)
  | (go_at_call 30;have hq:=hb2;refine (p2 _).mono ?_;rintro e w3 ⟨rfl,hb3⟩)
  | (go_at_call 30;have hq:=hb1;refine (p2 _).mono ?_;rintro e w2 ⟨rfl,hb2⟩)
  | (go_at_call 30;refine (p1 _).mono ?_;rintro e w1 ⟨rfl,hb1⟩)
  | (go_at_call 31;refine (c1 _).mono ?_;rintro e w4 ⟨g1,a1,a2,rfl,hr1,hr2,hr3,hb4⟩)
  | (go_at_call 32;refine (c2 _).mono ?_;rintro e w5 ⟨g2,a3,a4,rfl,hr4,hr5,hr6,hb5⟩))
 have Z8:=((Z7.out.set 0 (.slice (some ⟨w6.heap.size,0,none⟩) 2 2)).set 1 (.slice (some ⟨w3.heap.size,0,none⟩) 1 1)).set 2 (.slice (some ⟨w5.heap.size,0,none⟩) 2 2)
 have o0:=Z8.cell (j:=0) rfl
 have o1:=Z8.cell (j:=1) rfl
 have o2:=Z8.cell (j:=2) rfl
 refine bodyPost_ret (v:=.tuple #[.agg #[.slice (some ⟨w6.heap.size,0,none⟩) 2 2,.slice (some ⟨w3.heap.size,0,none⟩) 1 1,.slice (some ⟨w5.heap.size,0,none⟩) 2 2],.slice (some ⟨w6.heap.size + 1,0,none⟩) 2 2]) (by simp [results,Try.results15,go_sem,o0,o1,o2]) rfl ?_
 have z6:=hb6.size
 have tr : ∀ {b : Nat} {t : TypeId} {cs : List Value},RowIs (w6.alloc (.cells #[.string ⟨#[123,97,58,105,125]⟩,.string ⟨#[123,97,58,108,44,98,58,115,61,34,45,34,125]⟩] 9)) b t cs -> t ≠ 26 -> RowIs (((((w6.alloc (.cells #[.string ⟨#[123,97,58,105,125]⟩,.string ⟨#[123,97,58,108,44,98,58,115,61,34,45,34,125]⟩] 9)).setCell ⟨w5.heap.size + 1,0,none⟩ (.slice (some ⟨w6.heap.size,0,none⟩) 2 2)).alloc (.cells #[.int .i64 1,.int .i64 1,.int .i64 0,.int .i64 1] 45)).setCell ⟨w.heap.size,0,none⟩ (.slice (some ⟨w6.heap.size,0,none⟩) 2 2)).setCell ⟨w.heap.size,1,none⟩ (.slice (some ⟨w3.heap.size,0,none⟩) 1 1) |>.setCell ⟨w.heap.size,2,none⟩ (.slice (some ⟨w5.heap.size,0,none⟩) 2 2)) b t cs:=fun {b t cs} h ht => by
  have n1:=h.ne F6.out ht
  have n2:=h.ne Z6.out ht
  exact ((((h.setOther (by exact n1.symm) _).keep (bel1 _ (.cells #[.int .i64 1,.int .i64 1,.int .i64 0,.int .i64 1] 45))).setOther (by exact n2.symm) _).setOther (by exact n2.symm) _).setOther (by exact n2.symm) _
 have rT:=tr (((((show RowIs (w3.alloc (.cells #[.int .i64 1] 56)) w3.heap.size 56 [.int .i64 1] from zbq _ _).keep hb4).keep hb5).keep k6)) (by decide)
 have rS:=tr (((((show RowIs (w5.alloc (.cells #[.int .i64 1,.int .i64 0,.int .i64 1,.slice (some ⟨g1,0,none⟩) 2 2,.int .i64 1,.int .i64 0,.int .i64 1,.slice (some ⟨g2,0,none⟩) 2 2] 60)) w5.heap.size 60 [.int .i64 1,.int .i64 0,.int .i64 1,.slice (some ⟨g1,0,none⟩) 2 2,.int .i64 1,.int .i64 0,.int .i64 1,.slice (some ⟨g2,0,none⟩) 2 2] from zbq _ _).keep (bel1 _ (.cells #[.slice none 0 0,.slice (some ⟨w3.heap.size,0,none⟩) 1 1,.slice (some ⟨w5.heap.size,0,none⟩) 2 2] 26))).keep hb6).keep (bel1 w6 (.cells #[.string ⟨#[123,97,58,105,125]⟩,.string ⟨#[123,97,58,108,44,98,58,115,61,34,45,34,125]⟩] 9)))) (by decide)
 have rC:=tr (show RowIs (w6.alloc (.cells #[.string ⟨#[123,97,58,105,125]⟩,.string ⟨#[123,97,58,108,44,98,58,115,61,34,45,34,125]⟩] 9)) w6.heap.size 9 [.string ⟨#[123,97,58,105,125]⟩,.string ⟨#[123,97,58,108,44,98,58,115,61,34,45,34,125]⟩] from zbq _ _) (by decide)
 have q1:=zi2 (tr ((hr1.keep hb5).keep k6) (by decide)) (tr ((hr2.keep hb5).keep k6) (by decide)) (tr ((hr3.keep hb5).keep k6) (by decide))
 have q2:=zi2 (tr (hr4.keep k6) (by decide)) (tr (hr5.keep k6) (by decide)) (tr (hr6.keep k6) (by decide))
 have zs : ((w6.alloc (.cells #[.string ⟨#[123,97,58,105,125]⟩,.string ⟨#[123,97,58,108,44,98,58,115,61,34,45,34,125]⟩] 9)).setCell ⟨w5.heap.size + 1,0,none⟩ (.slice (some ⟨w6.heap.size,0,none⟩) 2 2)).heap.size = w6.heap.size + 1:=by simp [World.setCell]
 have rM : RowIs (((((w6.alloc (.cells #[.string ⟨#[123,97,58,105,125]⟩,.string ⟨#[123,97,58,108,44,98,58,115,61,34,45,34,125]⟩] 9)).setCell ⟨w5.heap.size + 1,0,none⟩ (.slice (some ⟨w6.heap.size,0,none⟩) 2 2)).alloc (.cells #[.int .i64 1,.int .i64 1,.int .i64 0,.int .i64 1] 45)).setCell ⟨w.heap.size,0,none⟩ (.slice (some ⟨w6.heap.size,0,none⟩) 2 2)).setCell ⟨w.heap.size,1,none⟩ (.slice (some ⟨w3.heap.size,0,none⟩) 1 1) |>.setCell ⟨w.heap.size,2,none⟩ (.slice (some ⟨w5.heap.size,0,none⟩) 2 2)) (w6.heap.size + 1) 45 [.int .i64 1,.int .i64 1,.int .i64 0,.int .i64 1]:=by
  have h:=zbq ((w6.alloc (.cells #[.string ⟨#[123,97,58,105,125]⟩,.string ⟨#[123,97,58,108,44,98,58,115,61,34,45,34,125]⟩] 9)).setCell ⟨w5.heap.size + 1,0,none⟩ (.slice (some ⟨w6.heap.size,0,none⟩) 2 2)) (.cells #[.int .i64 1,.int .i64 1,.int .i64 0,.int .i64 1] 45)
  rw [zs] at h
  have hn : w.heap.size ≠ w6.heap.size + 1:=by simp at lZ;omega
  exact (((show RowIs _ (w6.heap.size + 1) 45 [.int .i64 1,.int .i64 1,.int .i64 0,.int .i64 1] from h).setOther (by exact hn) _).setOther (by exact hn) _).setOther (by exact hn) _
 have kW:=thn3 (thn3 (thn3 (bel1 w _) K4) hb5) k6
 have hlw : w.heap.size <= w5.heap.size + 1:=by omega
 refine ⟨w6.heap.size,w3.heap.size,w5.heap.size,w6.heap.size + 1,rfl,⟨rfl,by decide,fun s hs => ?_,fun i s hi => ?_,rfl,by decide,fun i x hi => ?_,rfl,by decide,fun i v hi => ?_⟩,fun i m hi => ?_,?_⟩
 ·simp [flt0] at hs
  rcases hs with rfl | rfl <;> decide
 ·have hl:=(List.getElem?_eq_some_iff.1 hi).1
  have : i = 0 \/ i = 1:=by simp [flt0] at hl;omega
  rcases this with rfl | rfl
  ·simp [flt0] at hi;subst hi
   exact ⟨_,0,rfl,rC.cell (j:=0) rfl⟩
  ·simp [flt0] at hi;subst hi
   exact ⟨_,0,rfl,rC.cell (j:=1) rfl⟩
 ·have hl:=(List.getElem?_eq_some_iff.1 hi).1
  have : i = 0:=by simpa [flt0] using hl
  subst this
  simp [flt0] at hi;subst hi
  exact ⟨_,0,rfl,rT.cell (j:=0) rfl⟩
 ·have hl:=(List.getElem?_eq_some_iff.1 hi).1
  have : i = 0 \/ i = 1:=by simp [flt0] at hl;omega
  rcases this with rfl | rfl
  ·simp [flt0] at hi;subst hi
   exact ⟨_,0,_,_,_,rfl,rS.cell (j:=0) rfl,rS.cell (j:=1) rfl,rS.cell (j:=2) rfl,rS.cell (j:=3) rfl,q1⟩
  ·simp [flt0] at hi;subst hi
   exact ⟨_,0,_,_,_,rfl,rS.cell (j:=4) rfl,rS.cell (j:=5) rfl,rS.cell (j:=6) rfl,rS.cell (j:=7) rfl,q2⟩
 ·have hl:=(List.getElem?_eq_some_iff.1 hi).1
  have : i = 0 \/ i = 1:=by simp at hl;omega
  rcases this with rfl | rfl
  ·simp at hi;subst hi
   exact ⟨_,0,rfl,rM.cell (j:=0) rfl,rM.cell (j:=1) rfl⟩
  ·simp at hi;subst hi
   exact ⟨_,0,rfl,rM.cell (j:=2) rfl,rM.cell (j:=3) rfl⟩
 ·exact (((thn3 (kW.setCell (p:=⟨w5.heap.size + 1,0,none⟩) hlw _) (bel1 _ (.cells #[.int .i64 1,.int .i64 1,.int .i64 0,.int .i64 1] 45))).setCell (p:=⟨w.heap.size,0,none⟩) (Nat.le_refl _) _).setCell (p:=⟨w.heap.size,1,none⟩) (Nat.le_refl _) _).setCell (p:=⟨w.heap.size,2,none⟩) (Nat.le_refl _) _
end
section
open Go.RowKit
theorem zn3 {a b c d : Bool} (h : a = false \/ b = false \/ c = false \/ d = false) : (!(a && b && (c && d))) = true:=by
 rcases h with rfl | rfl | rfl | rfl <;> simp
theorem zlb (f : zac) (ho : Ord f) (hts : ∀ k,0 <= f.ts.getD k 0) (sa ta va fa : Option Addr) (sl sc tl tc vl vc fc : Nat) (w : World) (hf : FleetAt w sa sl sc ta tl tc va vl vc f) (hM : MatAt w fa (fitM f.ss)) (ms : List (Int × Int)) (ma : Option Addr) (mc : Nat) (hml : ms.length <= 2000000) (hm : MvsAt w ma ms) (j : Nat) (hj : j < ms.length) (hall : ∀ i,i <= j -> rmB f ms i = true) (B g gc : Nat) (hN : NowL w B g gc f.vs.length (cfgL f ms j)) :
  Calls Try.prog 25 #[.agg #[.slice sa sl sc,.slice ta tl tc,.slice va vl vc],.slice fa f.ss.length fc,.slice (some ⟨g,0,none⟩) f.vs.length gc,.slice ma ms.length mc,.int .i64 j] w fun e W => e = .returned (.bool (!rsB f ms j)) /\ Below w.heap.size w W:=by
 obtain ⟨x,y,hxy,hx,hy,hx3,hy3,_⟩:=zcn ho (hall j (Nat.le_refl _))
 have hpl : plc (mvAt ms j) = x * 3 + y:=by unfold plc;rw [hxy];simp
 obtain ⟨R,hR⟩ : ∃ R,R = !rsB f ms j:=⟨_,rfl⟩
 rw [<- hR]
 unfold rsB at hR
 rw [hpl] at hR
 have f0:=box3 w (.slice sa sl sc) (.slice ta tl tc) (.slice va vl vc) 26
 have hb0:=bel1 w (.cells #[.slice sa sl sc,.slice ta tl tc,.slice va vl vc] 26)
 obtain ⟨m,hmj⟩ : ∃ m,ms[j]? = some m:=⟨ms[j],List.getElem?_eq_getElem hj⟩
 have hmm : m = ((x : Int),(y : Int)):=by rw [<- hxy];simp [mvAt,List.getD,hmj]
 subst hmm
 obtain ⟨bm,om,rfl,cm0,cm1⟩:=hm j _ hmj
 simp only at cm0 cm1
 have cm0:=zaa hb0 cm0
 have cm1:=zaa hb0 cm1
 have c1:=fun (W : World) (h : Below w.heap.size w W) => zed f ho sa ta va fa sl sc tl tc vl vc fc W (hf.keep h) (hM.keep h) x y x y hx hy hx hy false
 have c2:=fun (t b : Nat) (ht : t < f.vs.length) (hb : b < rlen f.vs t) (kept : Bool) (W : World) (h : Below w.heap.size w W) => zk0 f ho hts sa ta va fa sl sc tl tc vl vc fc W (hf.keep h) (hM.keep h) x y t b hx hy ht hb kept
 rw [zky hts] at c1
 have HE : ∀ p q,metB f.ss f.ts false (plOf f p) (plOf f q) = eB f p q:=fun _ _ => rfl
 have HK : ∀ p q,metB f.ss f.ts true (plOf f p) (plOf f q) = kB f p q:=fun _ _ => rfl
 rw [HE] at c1
 have j0 := znn j
 have j1 : (j : Int) < (ms.length : Int):=by omega
 have hvl:=hf.v1
 have h3:=ho.vs3
 obtain ⟨v1a,v1b⟩ : vl <= f.vs.length /\ f.vs.length <= vl:=by omega
 have lm0:=zag cm0
 have HF:= zab hf
 have HO:= zab ho
 have HM:= zab hm
 have HALL:= zab hall
 have HN:= zab hN
 have HRR:= zab hR
 have m0:=box2 (w.alloc (.cells #[.slice sa sl sc,.slice ta tl tc,.slice va vl vc] 26)) (.int .i64 (x : Int)) (.int .i64 (y : Int)) 45
 rw [show (w.alloc (.cells #[.slice sa sl sc,.slice ta tl tc,.slice va vl vc] 26)).heap.size = w.heap.size + 1 by simp] at m0
 have f1:=new3 (.cells #[.int .i64 (x : Int),.int .i64 (y : Int)] 45) f0
 have hb1:=thn3 hb0 (bel1 _ (.cells #[.int .i64 (x : Int),.int .i64 (y : Int)] 45))
 obtain ⟨f10,f11,f12⟩:=f1
 obtain ⟨m00,m01⟩:=m0
 clear hf hM hm hall hN hR hmj hxy hpl ho hts hvl
 cases he0 : eB f (x * 3 + y) (x * 3 + y) with
 | false =>
  have hR1 : R = true:=by rw [HRR.out];exact zn3 (.inl he0)
  rw [he0] at c1
  clear HRR c2 he0
  subst hR1
  go_enter Try.func25,Try.ntmps25
  go_wp2_with (go_at_call 26;refine (c1 _ (by first | exact hb1 | exact hb1.drew)).mono ?_;rintro e w2 ⟨rfl,hb2⟩)
  go_ret
  exact ⟨rfl,thn3 hb1 hb2⟩
 | true =>
  rw [he0] at c1
  have HR2:=(zab (show R = !((((List.range f.vs.length).all fun s => eB f (x * 3 + y) (hsP f ms j s))) && (((List.range f.vs.length).all fun s => kB f (x * 3 + y) (nwP f s)) && (List.range j).all fun i => kB f (x * 3 + y) (plc (mvAt ms i)))) by rw [HRR.out,he0,Bool.true_and]))
  clear HRR he0
  go_enter Try.func25,Try.ntmps25
  go_wp2_with (go_at_call 26;refine (c1 _ (by first | exact hb1 | exact hb1.drew)).mono ?_;rintro e w2 ⟨rfl,hb2⟩)
  have f20:=zaa hb2 f10
  have f21:=zaa hb2 f11
  have f22:=zaa hb2 f12
  have m20:=zaa hb2 m00
  have m21:=zaa hb2 m01
  have hB2:=thn3 hb1 hb2
  clear f10 f11 f12 m00 m01 hb1 hb2 c1 cm0 cm1 lm0 f0 hb0
  go_loopw [13] (fun vs wr => ∃ s : Nat,s <= f.vs.length /\ vs = .int .i64 s /\ Hid (((List.range s).all fun s => eB f (x * 3 + y) (hsP f ms j s)) = true) /\ Hid (((List.range s).all fun s => kB f (x * 3 + y) (nwP f s)) = true) /\ Below w2.heap.size w2 wr) (fun s _ => f.vs.length - (intOf s).toNat)
  case atStart => exact ⟨0,Nat.zero_le _,rfl,rfl,rfl,Below.refl _ _⟩
  case round =>
   obtain ⟨s,hs,rfl,HA1,HA2,hb5⟩:=hrel
   rename World => w5
   have q0:=zaa hb5 f20
   have q1:=zaa hb5 f21
   have q2:=zaa hb5 f22
   have r0:=zaa hb5 m20
   have r1:=zaa hb5 m21
   have hB5:=thn3 hB2 hb5
   have s0 := znn s
   by_cases hlt : s < f.vs.length
   ·obtain ⟨n0,n1⟩:=zfm (ms:=ms) HO.out hlt j (fun i hi => HALL.out i (by omega))
    obtain ⟨_,_,k0,k1⟩:=HO.out.rl hlt
    have cn:=(HN.out.keep hB5).cell (zck hlt)
    obtain ⟨v,hv⟩ : ∃ v,f.vs[s]? = some v:=⟨f.vs[s],List.getElem?_eq_getElem hlt⟩
    obtain ⟨bv,ov,ra,rl,rc,rfl,_,cv,_,_,_⟩:=HF.out.v3 s v hv
    have cv:=zaa hB5 cv
    rw [<- zdv hv] at cv
    have e1 : hsP f ms j s = s * 3 + (hasI (nowI f s) ms s j).toNat:=rfl
    have e2 : nwP f s = s * 3 + (nowI f s).toNat:=rfl
    have hA1:=zdc (fun s => eB f (x * 3 + y) (hsP f ms j s)) s
    have hA2:=zdc (fun s => kB f (x * 3 + y) (nwP f s)) s
    rw [HA1.out,Bool.true_and] at hA1
    rw [HA2.out,Bool.true_and] at hA2
    have hn1 : eB f (x * 3 + y) (hsP f ms j s) = false -> R = true:=fun h => by rw [HR2.out,zce hlt h];rfl
    have hn2 : kB f (x * 3 + y) (nwP f s) = false -> R = true:=fun h => by rw [HR2.out,zce (F:=fun s => kB f (x * 3 + y) (nwP f s)) hlt h,Bool.false_and,Bool.and_false];rfl
    rw [e1] at hA1 hn1
    rw [e2] at hA2 hn2
    obtain ⟨hn,hhn⟩ : ∃ n : Nat,hasI (nowI f s) ms s j = n:=⟨(hasI (nowI f s) ms s j).toNat,by omega⟩
    obtain ⟨nn,hnn⟩ : ∃ n : Nat,nowI f s = n:=⟨(nowI f s).toNat,by omega⟩
    rw [hhn] at cn n1
    rw [hhn,Int.toNat_natCast] at hA1 hn1
    rw [hnn] at cv k1
    rw [hnn,Int.toNat_natCast] at hA2 hn2
    have d1:=c2 s hn hlt (by omega) false
    have d2:=c2 s nn hlt (by omega) true
    rw [HE] at d1
    rw [HK] at d2
    have s1 : (s : Int) < (f.vs.length : Int):=by omega
    have s1' : (s : Int) < (vl : Int):=by omega
    have lcn:=zag cn
    have lcv:=zag cv
    have HA1':= zab hA1
    have HA2':= zab hA2
    clear e1 e2 hA1 hA2 HA1 HA2 hhn hnn hv
    generalize eB f (x * 3 + y) (s * 3 + hn) = z1 at d1 hn1 HA1'
    generalize kB f (x * 3 + y) (s * 3 + nn) = z2 at d2 hn2 HA2'
    cases z1 <;> cases z2
    iterate 2
     ·have hR1:=hn1 rfl
      clear HR2 hn1 hn2
      subst hR1
      go_wp2_with fail
      go_region_held3 (fun w' => (w'.cell? ⟨w.heap.size,0,none⟩ = some (.slice sa sl sc) /\ w'.cell? ⟨w.heap.size,1,none⟩ = some (.slice ta tl tc) /\ w'.cell? ⟨w.heap.size,2,none⟩ = some (.slice (some ⟨bv,ov,none⟩) vl vc)) /\ (w'.cell? ⟨w.heap.size + 1,0,none⟩ = some (.int .i64 (x : Int)) /\ w'.cell? ⟨w.heap.size + 1,1,none⟩ = some (.int .i64 (y : Int))) /\ w'.cell? ⟨g,s,none⟩ = some (.int .i64 (hn : Int))) (go_keep) (first | (go_at_call 49;refine (d1 _ hB5.drew).mono ?_;rintro e w6 ⟨rfl,hb6⟩;have q06:=zaa hb6 q0;have q16:=zaa hb6 q1;have q26:=zaa hb6 q2;have r06:=zaa hb6 r0;have r16:=zaa hb6 r1;have cn6:=zaa hb6 cn))
      have hb6:=thn3 (Below.refl w5.heap.size w5).drew hb6
      have cv6:=zaa hb6 cv
      have hB6:=thn3 hB5 hb6
      have l6:=zag q06
      have l6':=zag r06
      have l6'':=zag cv6
      clear cn6
      go_wp2_with fail
      go_region_held3 (fun w' => (w'.cell? ⟨w.heap.size,0,none⟩ = some (.slice sa sl sc) /\ w'.cell? ⟨w.heap.size,1,none⟩ = some (.slice ta tl tc) /\ w'.cell? ⟨w.heap.size,2,none⟩ = some (.slice (some ⟨bv,ov,none⟩) vl vc)) /\ (w'.cell? ⟨w.heap.size + 1,0,none⟩ = some (.int .i64 (x : Int)) /\ w'.cell? ⟨w.heap.size + 1,1,none⟩ = some (.int .i64 (y : Int))) /\ w'.cell? ⟨bv,ov + s * 4 + 1,none⟩ = some (.int .i64 (nn : Int))) (go_keep) (first | (go_at_call 49;refine (d2 _ hB6.drew).mono ?_;rintro e w7 ⟨rfl,hb7⟩;have q07:=zaa hb7 q06;have q17:=zaa hb7 q16;have q27:=zaa hb7 q26;have r07:=zaa hb7 r06;have r17:=zaa hb7 r16;have cv7:=zaa hb7 cv6))
      go_wp2_with fail
      go_ret
      exact ⟨rfl,thn3 hB6.drew hb7⟩
    ·have hR1:=hn2 rfl
     clear HR2 hn1 hn2
     subst hR1
     go_wp2_with fail
     go_region_held3 (fun w' => (w'.cell? ⟨w.heap.size,0,none⟩ = some (.slice sa sl sc) /\ w'.cell? ⟨w.heap.size,1,none⟩ = some (.slice ta tl tc) /\ w'.cell? ⟨w.heap.size,2,none⟩ = some (.slice (some ⟨bv,ov,none⟩) vl vc)) /\ (w'.cell? ⟨w.heap.size + 1,0,none⟩ = some (.int .i64 (x : Int)) /\ w'.cell? ⟨w.heap.size + 1,1,none⟩ = some (.int .i64 (y : Int))) /\ w'.cell? ⟨g,s,none⟩ = some (.int .i64 (hn : Int))) (go_keep) (first | (go_at_call 49;refine (d1 _ hB5.drew).mono ?_;rintro e w6 ⟨rfl,hb6⟩;have q06:=zaa hb6 q0;have q16:=zaa hb6 q1;have q26:=zaa hb6 q2;have r06:=zaa hb6 r0;have r16:=zaa hb6 r1;have cn6:=zaa hb6 cn))
     have hb6:=thn3 (Below.refl w5.heap.size w5).drew hb6
     have cv6:=zaa hb6 cv
     have hB6:=thn3 hB5 hb6
     have l6:=zag q06
     have l6':=zag r06
     have l6'':=zag cv6
     clear cn6
     go_wp2_with fail
     go_region_held3 (fun w' => (w'.cell? ⟨w.heap.size,0,none⟩ = some (.slice sa sl sc) /\ w'.cell? ⟨w.heap.size,1,none⟩ = some (.slice ta tl tc) /\ w'.cell? ⟨w.heap.size,2,none⟩ = some (.slice (some ⟨bv,ov,none⟩) vl vc)) /\ (w'.cell? ⟨w.heap.size + 1,0,none⟩ = some (.int .i64 (x : Int)) /\ w'.cell? ⟨w.heap.size + 1,1,none⟩ = some (.int .i64 (y : Int))) /\ w'.cell? ⟨bv,ov + s * 4 + 1,none⟩ = some (.int .i64 (nn : Int))) (go_keep) (first | (go_at_call 49;refine (d2 _ hB6.drew).mono ?_;rintro e w7 ⟨rfl,hb7⟩;have q07:=zaa hb7 q06;have q17:=zaa hb7 q16;have q27:=zaa hb7 q26;have r07:=zaa hb7 r06;have r17:=zaa hb7 r16;have cv7:=zaa hb7 cv6))
     go_wp2_with fail
     go_ret
     exact ⟨rfl,thn3 hB6.drew hb7⟩
    ·clear hn1 hn2
     go_wp2_with fail
     go_region_held3 (fun w' => (w'.cell? ⟨w.heap.size,0,none⟩ = some (.slice sa sl sc) /\ w'.cell? ⟨w.heap.size,1,none⟩ = some (.slice ta tl tc) /\ w'.cell? ⟨w.heap.size,2,none⟩ = some (.slice (some ⟨bv,ov,none⟩) vl vc)) /\ (w'.cell? ⟨w.heap.size + 1,0,none⟩ = some (.int .i64 (x : Int)) /\ w'.cell? ⟨w.heap.size + 1,1,none⟩ = some (.int .i64 (y : Int))) /\ w'.cell? ⟨g,s,none⟩ = some (.int .i64 (hn : Int))) (go_keep) (first | (go_at_call 49;refine (d1 _ hB5.drew).mono ?_;rintro e w6 ⟨rfl,hb6⟩;have q06:=zaa hb6 q0;have q16:=zaa hb6 q1;have q26:=zaa hb6 q2;have r06:=zaa hb6 r0;have r16:=zaa hb6 r1;have cn6:=zaa hb6 cn))
     have hb6:=thn3 (Below.refl w5.heap.size w5).drew hb6
     have cv6:=zaa hb6 cv
     have hB6:=thn3 hB5 hb6
     have l6:=zag q06
     have l6':=zag r06
     have l6'':=zag cv6
     clear cn6
     go_wp2_with fail
     go_region_held3 (fun w' => (w'.cell? ⟨w.heap.size,0,none⟩ = some (.slice sa sl sc) /\ w'.cell? ⟨w.heap.size,1,none⟩ = some (.slice ta tl tc) /\ w'.cell? ⟨w.heap.size,2,none⟩ = some (.slice (some ⟨bv,ov,none⟩) vl vc)) /\ (w'.cell? ⟨w.heap.size + 1,0,none⟩ = some (.int .i64 (x : Int)) /\ w'.cell? ⟨w.heap.size + 1,1,none⟩ = some (.int .i64 (y : Int))) /\ w'.cell? ⟨bv,ov + s * 4 + 1,none⟩ = some (.int .i64 (nn : Int))) (go_keep) (first | (go_at_call 49;refine (d2 _ hB6.drew).mono ?_;rintro e w7 ⟨rfl,hb7⟩;have q07:=zaa hb7 q06;have q17:=zaa hb7 q16;have q27:=zaa hb7 q26;have r07:=zaa hb7 r06;have r17:=zaa hb7 r16;have cv7:=zaa hb7 cv6))
     go_wp2_with fail
     go_roundw
     case rel => exact ⟨s + 1,by omega,by go_num,HA1',HA2',thn3 (thn3 hb5 hb6).drew hb7⟩
     case measure => simp [intOf];omega
   ·obtain rfl : s = f.vs.length:=by omega
    have HR3:=(zab (show R = !((List.range j).all fun i => kB f (x * 3 + y) (plc (mvAt ms i))) by rw [HR2.out,HA1.out,HA2.out,Bool.true_and,Bool.true_and]))
    clear HR2 HA1 HA2
    go_wp2_with fail
    go_loopw [15] (fun vi wr => ∃ i : Nat,i <= j /\ vi = .int .i64 i /\ Hid (((List.range i).all fun i => kB f (x * 3 + y) (plc (mvAt ms i))) = true) /\ Below w2.heap.size w2 wr) (fun i _ => j - (intOf i).toNat)
    case atStart => exact ⟨0,Nat.zero_le _,rfl,rfl,hb5⟩
    case round =>
     clear hb5 q0 q1 q2 r0 r1 hB5 s0
     obtain ⟨i,hi,rfl,HA,hb6⟩:=hrel
     rename World => w6
     have q0:=zaa hb6 f20
     have q1:=zaa hb6 f21
     have q2:=zaa hb6 f22
     have r0:=zaa hb6 m20
     have r1:=zaa hb6 m21
     have hB6:=thn3 hB2 hb6
     have i0 := znn i
     by_cases hlt : i < j
     ·obtain ⟨x2,y2,hxy2,hx2,hy2,_,_,_⟩:=zcn HO.out (HALL.out i (by omega))
      obtain ⟨mi,hmi⟩ : ∃ m,ms[i]? = some m:=⟨ms[i]'(by omega),List.getElem?_eq_getElem _⟩
      have hmm : mi = ((x2 : Int),(y2 : Int)):=by rw [<- hxy2];simp [mvAt,List.getD,hmi]
      subst hmm
      obtain ⟨b',o',hbb,ci0,ci1⟩:=HM.out i _ hmi
      cases hbb
      simp only at ci0 ci1
      have ci0:=zaa hB6 ci0
      have ci1:=zaa hB6 ci1
      have l1:=zag ci0
      have l2:=zag q0
      have l3:=zag r0
      have d2:=c2 x2 y2 hx2 hy2 true
      rw [HK] at d2
      have hA:=zdc (fun i => kB f (x * 3 + y) (plc (mvAt ms i))) i
      have hpl2 : plc (mvAt ms i) = x2 * 3 + y2:=by unfold plc;rw [hxy2];simp
      rw [HA.out,Bool.true_and,hpl2] at hA
      have hno : kB f (x * 3 + y) (x2 * 3 + y2) = false -> R = true:=fun h => by rw [HR3.out,zce (F:=fun i => kB f (x * 3 + y) (plc (mvAt ms i))) hlt (by rw [hpl2];exact h)];rfl
      have HA':= zab hA
      have i1 : (i : Int) < (ms.length : Int):=by omega
      have i2 : (i : Int) < (j : Int):=by omega
      clear HA hA hpl2 hmi hxy2
      generalize kB f (x * 3 + y) (x2 * 3 + y2) = z at d2 hno HA'
      cases z with
      | false =>
       have hR1:=hno rfl
       clear HR3 hno
       subst hR1
       go_wp2_with fail
       go_region_held3 (fun w' => (w'.cell? ⟨w.heap.size,0,none⟩ = some (.slice sa sl sc) /\ w'.cell? ⟨w.heap.size,1,none⟩ = some (.slice ta tl tc) /\ w'.cell? ⟨w.heap.size,2,none⟩ = some (.slice va vl vc)) /\ (w'.cell? ⟨w.heap.size + 1,0,none⟩ = some (.int .i64 (x : Int)) /\ w'.cell? ⟨w.heap.size + 1,1,none⟩ = some (.int .i64 (y : Int))) /\ w'.cell? ⟨bm,om + i * 2,none⟩ = some (.int .i64 (x2 : Int)) /\ w'.cell? ⟨bm,om + i * 2 + 1,none⟩ = some (.int .i64 (y2 : Int))) (go_keep) (first | (go_at_call 49;refine (d2 _ hB6.drew).mono ?_;rintro e w7 ⟨rfl,hb7⟩;have q07:=zaa hb7 q0;have q17:=zaa hb7 q1;have q27:=zaa hb7 q2;have r07:=zaa hb7 r0;have r17:=zaa hb7 r1;have cv7:=zaa hb7 ci0;have cw7:=zaa hb7 ci1))
       go_wp2_with fail
       go_ret
       exact ⟨rfl,thn3 hB6.drew hb7⟩
      | true =>
       clear hno
       go_wp2_with fail
       go_region_held3 (fun w' => (w'.cell? ⟨w.heap.size,0,none⟩ = some (.slice sa sl sc) /\ w'.cell? ⟨w.heap.size,1,none⟩ = some (.slice ta tl tc) /\ w'.cell? ⟨w.heap.size,2,none⟩ = some (.slice va vl vc)) /\ (w'.cell? ⟨w.heap.size + 1,0,none⟩ = some (.int .i64 (x : Int)) /\ w'.cell? ⟨w.heap.size + 1,1,none⟩ = some (.int .i64 (y : Int))) /\ w'.cell? ⟨bm,om + i * 2,none⟩ = some (.int .i64 (x2 : Int)) /\ w'.cell? ⟨bm,om + i * 2 + 1,none⟩ = some (.int .i64 (y2 : Int))) (go_keep) (first | (go_at_call 49;refine (d2 _ hB6.drew).mono ?_;rintro e w7 ⟨rfl,hb7⟩;have q07:=zaa hb7 q0;have q17:=zaa hb7 q1;have q27:=zaa hb7 q2;have r07:=zaa hb7 r0;have r17:=zaa hb7 r1;have cv7:=zaa hb7 ci0;have cw7:=zaa hb7 ci1))
       go_wp2_with fail
       go_roundw
       case rel => exact ⟨i + 1,by omega,by go_num,HA',thn3 hb6.drew hb7⟩
       case measure => simp [intOf];omega
     ·obtain rfl : i = j:=by omega
      have hR1 : R = false:=by rw [HR3.out,HA.out];rfl
      clear HR3 HA
      subst hR1
      go_wp2_with fail
      go_ret
      exact ⟨rfl,hB6⟩
end
end Go.Proofs.Ytkkekopomiehlab
