import Derived.Test.YtkkekopomiehlabHSh7
import Derived.Test.YtkkekopomiehlabRows
import Derived.Deep.Slices
import Derived.Deep.Strs
import Derived.Carry
set_option linter.unusedVariables false
set_option linter.unusedSimpArgs false
set_option maxHeartbeats 40000000
set_option maxRecDepth 4000
namespace Go.Proofs.Ytkkekopomiehlab
section
open Go.RowKit
theorem zf7 {f : zad} : zak f [] = if ordB f = true then (if sndB (zac f) = true then (0,0) else (0,10)) else (0,8):=by
 unfold zak
 split
 ·rw [if_pos (show amB (zac f) [] = true from rfl)];rfl
 ·rfl
theorem zgs {b1 b2 : Bool} {H N L : Int} (h : (b1 && decide (H = 0) && decide (N = L)) = false \/ b2 = false) : b1 = false \/ (b1 = true /\ H ≠ 0) \/ (b1 = true /\ H = 0 /\ N ≠ L) \/ (b1 = true /\ H = 0 /\ N = L /\ b2 = false):=by
 cases b1 with
 | false => exact .inl rfl
 | true =>
  by_cases h1 : H = 0
  ·by_cases h2 : N = L
   ·rcases h with h | h
    ·simp [h1,h2] at h
    ·exact .inr (.inr (.inr ⟨rfl,h1,h2,h⟩))
   ·exact .inr (.inr (.inl ⟨rfl,h1,h2⟩))
  ·exact .inr (.inl ⟨rfl,h1⟩)
theorem zoa (f : zad) (sa ta va : Option Addr) (sl sc tl tc vl vc : Nat) (ms : List (Int × Int)) (ma : Option Addr) (mc : Nat) (w : World) (hf : FleetAt w sa sl sc ta tl tc va vl vc f) (hml : ms.length <= 2000000) (hm : MvsAt w ma ms) (haw : ∀ W,Calls Try.prog 5 #[] W fun e W' => e = .returned (.bool true) /\ Below W.heap.size W W') (hob : ordB f = false) :
  Calls Try.prog 4 #[.agg #[.slice sa sl sc,.slice ta tl tc,.slice va vl vc],.slice ma ms.length mc] w fun e W => e = .returned (.bool true) /\ Below w.heap.size w W:=by
 have f0:=box3 w (.slice sa sl sc) (.slice ta tl tc) (.slice va vl vc) 26
 have hb0:=bel1 w (.cells #[.slice sa sl sc,.slice ta tl tc,.slice va vl vc] 26)
 have c2:=fun (W : World) (h : Below w.heap.size w W) => zd4 f sa ta va sl sc tl tc vl vc 512 W (hf.keep h)
 have c3:=fun (p : List (Int × Int)) (pa : Option Addr) (pc : Nat) (W : World) (h : Below w.heap.size w W) (hl : p.length <= 2000000) (hp : MvsAt W pa p) => zbw f sa ta va sl sc tl tc vl vc p pa pc W (hf.keep h) hl hp
 have c4:=fun (W : World) (h : Below w.heap.size w W) => zbw f sa ta va sl sc tl tc vl vc ms ma mc W (hf.keep h) hml (hm.keep h)
 have c5 : ∀ (W : World),Below w.heap.size w W -> Calls Try.prog 6 #[.agg #[.slice sa sl sc,.slice ta tl tc,.slice va vl vc],.slice none 0 0] W fun e W' => e = .returned (.tuple #[.int .i64 (zak f []).1,.int .i64 (zak f []).2]) /\ Below W.heap.size W W':=fun W h => zbw f sa ta va sl sc tl tc vl vc [] none 0 W (hf.keep h) (by decide) (fun i m hi => by simp at hi)
 have hpl : ∀ (p : List (Int × Int)) (er : Int),PlanIs f 512 p er -> p = [] /\ er = 8:=fun p er h => by
  unfold PlanIs at h
  rw [if_neg (by rw [hob];simp)] at h;exact h
 rw [zf7,if_neg (by rw [hob];simp)] at c5
 simp only at c5
 generalize (zak f ms).1 = N at c4
 generalize (zak f ms).2 = H at c4
 have HPL:= zab hpl
 clear hf hm hpl
 go_enter Try.func4,Try.ntmps4
 go_wp2_with (first
  | (go_at_call 5;refine (haw _).mono ?_;rintro e w1 ⟨rfl,hb1⟩;have f1:=zag hb1 f0;have g1:=thn3 hb0 hb1)
  | (go_at_call 12;refine (c2 _ g1).mono ?_;rintro e w2 ⟨⟨u,p,er,rfl,hown,hPI⟩,hb2⟩;obtain ⟨rfl,rfl⟩:=HPL.out p er hPI;obtain ⟨pa,pc,rfl,hM2⟩:=zem hown rfl;have HM2:= zab hM2;clear hM2 hown hPI;have f2:=zag hb2 f1;have g2:=thn3 g1 hb2;have c3':=c3 [] pa pc w2 g2 (by decide) HM2.out;simp only [List.length_nil] at c3';generalize (zak f []).1 = N' at c3';generalize (zak f []).2 = H' at c3'))
 go_wp2_with (first
  | (go_at_call 6;have hq:=hb4;refine (c5 _ g4).mono ?_;rintro e w5 ⟨rfl,hb5⟩;have f5:=zag hb5 f4;have g5:=thn3 g4 hb5)
  | (go_at_call 6;have hq:=hb3;refine (c4 _ g3).mono ?_;rintro e w4 ⟨rfl,hb4⟩;have f4:=zag hb4 f3;have g4:=thn3 g3 hb4)
  | (go_at_call 6;refine c3'.mono ?_;rintro e w3 ⟨rfl,hb3⟩;have f3:=zag hb3 f2;have g3:=thn3 g2 hb3))
 go_ret
 exact ⟨zav (by simp),g5⟩
theorem zoc (f : zad) (sa ta va : Option Addr) (sl sc tl tc vl vc : Nat) (ms : List (Int × Int)) (ma : Option Addr) (mc : Nat) (w : World) (hf : FleetAt w sa sl sc ta tl tc va vl vc f) (hml : ms.length <= 2000000) (hm : MvsAt w ma ms) (haw : ∀ W,Calls Try.prog 5 #[] W fun e W' => e = .returned (.bool true) /\ Below W.heap.size W W') (hob : ordB f = true) (hsn : sndB (zac f) = false) :
  Calls Try.prog 4 #[.agg #[.slice sa sl sc,.slice ta tl tc,.slice va vl vc],.slice ma ms.length mc] w fun e W => e = .returned (.bool true) /\ Below w.heap.size w W:=by
 have f0:=box3 w (.slice sa sl sc) (.slice ta tl tc) (.slice va vl vc) 26
 have hb0:=bel1 w (.cells #[.slice sa sl sc,.slice ta tl tc,.slice va vl vc] 26)
 have c2:=fun (W : World) (h : Below w.heap.size w W) => zd4 f sa ta va sl sc tl tc vl vc 512 W (hf.keep h)
 have c3:=fun (p : List (Int × Int)) (pa : Option Addr) (pc : Nat) (W : World) (h : Below w.heap.size w W) (hl : p.length <= 2000000) (hp : MvsAt W pa p) => zbw f sa ta va sl sc tl tc vl vc p pa pc W (hf.keep h) hl hp
 have c4:=fun (W : World) (h : Below w.heap.size w W) => zbw f sa ta va sl sc tl tc vl vc ms ma mc W (hf.keep h) hml (hm.keep h)
 have c5 : ∀ (W : World),Below w.heap.size w W -> Calls Try.prog 6 #[.agg #[.slice sa sl sc,.slice ta tl tc,.slice va vl vc],.slice none 0 0] W fun e W' => e = .returned (.tuple #[.int .i64 (zak f []).1,.int .i64 (zak f []).2]) /\ Below W.heap.size W W':=fun W h => zbw f sa ta va sl sc tl tc vl vc [] none 0 W (hf.keep h) (by decide) (fun i m hi => by simp at hi)
 have hpl : ∀ (p : List (Int × Int)) (er : Int),PlanIs f 512 p er -> p = [] /\ er = 10:=fun p er h => by
  unfold PlanIs at h
  rw [if_pos hob,if_neg (by omega),if_neg (by rw [hsn];simp)] at h;exact h
 rw [zf7,if_pos hob,if_neg (by rw [hsn];simp)] at c5
 simp only at c5
 generalize (zak f ms).1 = N at c4
 generalize (zak f ms).2 = H at c4
 have HPL:= zab hpl
 clear hf hm hpl
 go_enter Try.func4,Try.ntmps4
 go_wp2_with (first
  | (go_at_call 5;refine (haw _).mono ?_;rintro e w1 ⟨rfl,hb1⟩;have f1:=zag hb1 f0;have g1:=thn3 hb0 hb1)
  | (go_at_call 12;refine (c2 _ g1).mono ?_;rintro e w2 ⟨⟨u,p,er,rfl,hown,hPI⟩,hb2⟩;obtain ⟨rfl,rfl⟩:=HPL.out p er hPI;obtain ⟨pa,pc,rfl,hM2⟩:=zem hown rfl;have HM2:= zab hM2;clear hM2 hown hPI;have f2:=zag hb2 f1;have g2:=thn3 g1 hb2;have c3':=c3 [] pa pc w2 g2 (by decide) HM2.out;simp only [List.length_nil] at c3';generalize (zak f []).1 = N' at c3';generalize (zak f []).2 = H' at c3'))
 go_wp2_with (first
  | (go_at_call 6;have hq:=hb4;refine (c5 _ g4).mono ?_;rintro e w5 ⟨rfl,hb5⟩;have f5:=zag hb5 f4;have g5:=thn3 g4 hb5)
  | (go_at_call 6;have hq:=hb3;refine (c4 _ g3).mono ?_;rintro e w4 ⟨rfl,hb4⟩;have f4:=zag hb4 f3;have g4:=thn3 g3 hb4)
  | (go_at_call 6;refine c3'.mono ?_;rintro e w3 ⟨rfl,hb3⟩;have f3:=zag hb3 f2;have g3:=thn3 g2 hb3))
 go_ret
 exact ⟨zav (by simp),g5⟩
theorem zoe (f : zad) (sa ta va : Option Addr) (sl sc tl tc vl vc : Nat) (ms : List (Int × Int)) (ma : Option Addr) (mc : Nat) (w : World) (hf : FleetAt w sa sl sc ta tl tc va vl vc f) (hml : ms.length <= 2000000) (hm : MvsAt w ma ms) (haw : ∀ W,Calls Try.prog 5 #[] W fun e W' => e = .returned (.bool true) /\ Below W.heap.size W W') (hob : ordB f = true) (hsn : sndB (zac f) = true) :
  Calls Try.prog 4 #[.agg #[.slice sa sl sc,.slice ta tl tc,.slice va vl vc],.slice ma ms.length mc] w fun e W => e = .returned (.bool true) /\ Below w.heap.size w W:=by
 have f0:=box3 w (.slice sa sl sc) (.slice ta tl tc) (.slice va vl vc) 26
 have hb0:=bel1 w (.cells #[.slice sa sl sc,.slice ta tl tc,.slice va vl vc] 26)
 have c2:=fun (W : World) (h : Below w.heap.size w W) => zd4 f sa ta va sl sc tl tc vl vc 512 W (hf.keep h)
 have c3:=fun (p : List (Int × Int)) (pa : Option Addr) (pc : Nat) (W : World) (h : Below w.heap.size w W) (hl : p.length <= 2000000) (hp : MvsAt W pa p) => zbw f sa ta va sl sc tl tc vl vc p pa pc W (hf.keep h) hl hp
 have c4:=fun (W : World) (h : Below w.heap.size w W) => zbw f sa ta va sl sc tl tc vl vc ms ma mc W (hf.keep h) hml (hm.keep h)
 have c5 : ∀ (W : World),Below w.heap.size w W -> Calls Try.prog 6 #[.agg #[.slice sa sl sc,.slice ta tl tc,.slice va vl vc],.slice none 0 0] W fun e W' => e = .returned (.tuple #[.int .i64 (zak f []).1,.int .i64 (zak f []).2]) /\ Below W.heap.size W W':=fun W h => zbw f sa ta va sl sc tl tc vl vc [] none 0 W (hf.keep h) (by decide) (fun i m hi => by simp at hi)
 have ho:=zeo hob
 have c6:=fun (p : List (Int × Int)) (pa : Option Addr) (pc : Nat) (W : World) (h : Below w.heap.size w W) (hl : p.length <= 2000000) (hp : MvsAt W pa p) => zfp f ho sa ta va sl sc tl tc vl vc W (hf.keep h) p pa pc hl hp
 have c7:=fun (W : World) (h : Below w.heap.size w W) => zfp f ho sa ta va sl sc tl tc vl vc W (hf.keep h) ms ma mc hml (hm.keep h)
 have c8:=fun (p : List (Int × Int)) (pa : Option Addr) (pc : Nat) (W : World) (h : Below w.heap.size w W) (hl : p.length <= 2000000) (hp : MvsAt W pa p) => zlg ms p hml hl ma pa mc pc W (hm.keep h) hp
 have hpl : ∀ (p : List (Int × Int)) (er : Int),PlanIs f 512 p er -> _:=fun p er h => zob hob hsn h ms
 have c9 : ∀ (W : World),Below w.heap.size w W -> Calls Try.prog 13 #[.agg #[.slice sa sl sc,.slice ta tl tc,.slice va vl vc],.slice none 0 0] W fun e W' => e = .returned (.bool (leB f [])) /\ Below W.heap.size W W':=fun W h => zfp f ho sa ta va sl sc tl tc vl vc W (hf.keep h) [] none 0 (by decide) (fun i m hi => by simp at hi)
 rw [zf7,if_pos hob,if_pos hsn] at c5
 simp only at c5
 have HPL:= zab hpl
 clear hf hm hpl ho hob hsn
 go_enter Try.func4,Try.ntmps4
 go_wp2_with (first
  | (go_at_call 5;refine (haw _).mono ?_;rintro e w1 ⟨rfl,hb1⟩;have f1:=zag hb1 f0;have g1:=thn3 hb0 hb1)
  | (go_at_call 12;refine (c2 _ g1).mono ?_;rintro e w2 ⟨⟨u,p,er,rfl,hown,hPI⟩,hb2⟩;obtain ⟨hlen,hcase⟩:=HPL.out p er hPI;obtain ⟨pa,pc,rfl,hM2⟩:=zem hown rfl;have HM2:= zab hM2;clear hM2 hown hPI;have f2:=zag hb2 f1;have g2:=thn3 g1 hb2;have c3':=c3 p pa pc w2 g2 (by omega) HM2.out))
 clear HPL c3 haw c2
 generalize (zak f ms).1 = N at c4 hcase
 generalize (zak f ms).2 = H at c4 hcase
 generalize leB f ms = b1 at c7 hcase
 rcases hcase with ⟨rfl,rfl,hn1,hn2⟩ | ⟨rfl,hs1,hs2,hs3⟩
 ·rw [hn1] at c9
  generalize (zak f []).1 = N' at c3'
  generalize (zak f []).2 = H' at c3'
  clear hn1 c6 c8 HM2 hlen
  simp only [List.length_nil] at c3' ⊢
  obtain rfl | ⟨rfl,hH⟩ | ⟨rfl,rfl,hN⟩ | ⟨rfl,rfl,rfl,hb⟩:=zgs (b2:=true) (.inl hn2)
  ·clear hn2
   go_wp2_with (first
    | (go_at_call 13;have hq:=hb6;refine (c9 _ g6).mono ?_;rintro e w7 ⟨rfl,hb7⟩;have f7:=zag hb7 f6;have g7:=thn3 g6 hb7)
    | (go_at_call 13;have hq:=hb5;refine (c7 _ g5).mono ?_;rintro e w6 ⟨rfl,hb6⟩;have f6:=zag hb6 f5;have g6:=thn3 g5 hb6)
    | (go_at_call 6;have hq:=hb4;refine (c5 _ g4).mono ?_;rintro e w5 ⟨rfl,hb5⟩;have f5:=zag hb5 f4;have g5:=thn3 g4 hb5)
    | (go_at_call 6;have hq:=hb3;refine (c4 _ g3).mono ?_;rintro e w4 ⟨rfl,hb4⟩;have f4:=zag hb4 f3;have g4:=thn3 g3 hb4)
    | (go_at_call 6;refine c3'.mono ?_;rintro e w3 ⟨rfl,hb3⟩;have f3:=zag hb3 f2;have g3:=thn3 g2 hb3))
   go_ret
   exact ⟨zav (by simp),g7⟩
  ·have t1 : (H == 0) = false:=by simpa using hH
   have t2 : decide (H = 0) = false:=by simpa using hH
   have t3 : (H != 0) = true:=by simpa using hH
   clear hn2
   go_wp2_with (first
    | (go_at_call 13;have hq:=hb6;refine (c9 _ g6).mono ?_;rintro e w7 ⟨rfl,hb7⟩;have f7:=zag hb7 f6;have g7:=thn3 g6 hb7)
    | (go_at_call 13;have hq:=hb5;refine (c7 _ g5).mono ?_;rintro e w6 ⟨rfl,hb6⟩;have f6:=zag hb6 f5;have g6:=thn3 g5 hb6)
    | (go_at_call 6;have hq:=hb4;refine (c5 _ g4).mono ?_;rintro e w5 ⟨rfl,hb5⟩;have f5:=zag hb5 f4;have g5:=thn3 g4 hb5)
    | (go_at_call 6;have hq:=hb3;refine (c4 _ g3).mono ?_;rintro e w4 ⟨rfl,hb4⟩;have f4:=zag hb4 f3;have g4:=thn3 g3 hb4)
    | (go_at_call 6;refine c3'.mono ?_;rintro e w3 ⟨rfl,hb3⟩;have f3:=zag hb3 f2;have g3:=thn3 g2 hb3))
   go_ret
   exact ⟨zav (by simp),g7⟩
  ·have t1 : (N == (ms.length : Int)) = false:=by simpa using hN
   have t2 : decide (N = (ms.length : Int)) = false:=by simpa using hN
   have t3 : (N != (ms.length : Int)) = true:=by simpa using hN
   clear hn2
   go_wp2_with (first
    | (go_at_call 13;have hq:=hb6;refine (c9 _ g6).mono ?_;rintro e w7 ⟨rfl,hb7⟩;have f7:=zag hb7 f6;have g7:=thn3 g6 hb7)
    | (go_at_call 13;have hq:=hb5;refine (c7 _ g5).mono ?_;rintro e w6 ⟨rfl,hb6⟩;have f6:=zag hb6 f5;have g6:=thn3 g5 hb6)
    | (go_at_call 6;have hq:=hb4;refine (c5 _ g4).mono ?_;rintro e w5 ⟨rfl,hb5⟩;have f5:=zag hb5 f4;have g5:=thn3 g4 hb5)
    | (go_at_call 6;have hq:=hb3;refine (c4 _ g3).mono ?_;rintro e w4 ⟨rfl,hb4⟩;have f4:=zag hb4 f3;have g4:=thn3 g3 hb4)
    | (go_at_call 6;refine c3'.mono ?_;rintro e w3 ⟨rfl,hb3⟩;have f3:=zag hb3 f2;have g3:=thn3 g2 hb3))
   go_ret
   exact ⟨zav (by simp),g7⟩
  ·exact absurd hb (by simp)
 ·rw [hs1] at c3'
  have k1 : ((p.length : Int) == (p.length : Int)) = true:=by simp
  have k2 : ((p.length : Int) != (p.length : Int)) = false:=by simp
  have c6':=fun (W : World) (h : Below w.heap.size w W) (hp : MvsAt W pa p) => c6 p pa pc W h (by omega) hp
  have c8':=fun (W : World) (h : Below w.heap.size w W) (hp : MvsAt W pa p) => c8 p pa pc W h (by omega) hp
  rw [hs2] at c6'
  clear c6 c8 hs2
  clear hs1 c9
  simp only at c3'
  generalize eaB ms p = b2 at hs3 c8'
  obtain rfl | ⟨rfl,hH⟩ | ⟨rfl,rfl,hN⟩ | ⟨rfl,rfl,rfl,rfl⟩:=zgs hs3
  ·clear hs3
   go_wp2_with (first
    | (go_at_call 14;refine (c8' _ g7 HM7.out).mono ?_;rintro e w8 ⟨rfl,hb8⟩;have g8:=thn3 g7 hb8)
    | (go_at_call 13;have hq:=hb6;refine (c6' _ g6 HM6.out).mono ?_;rintro e w7 ⟨rfl,hb7⟩;have f7:=zag hb7 f6;have g7:=thn3 g6 hb7;have HM7:=(zab (HM6.out.keep hb7)))
    | (go_at_call 13;have hq:=hb5;refine (c7 _ g5).mono ?_;rintro e w6 ⟨rfl,hb6⟩;have f6:=zag hb6 f5;have g6:=thn3 g5 hb6;have HM6:=(zab ((((HM2.out.keep hb3).keep hb4).keep hb5).keep hb6)))
    | (go_at_call 6;have hq:=hb4;refine (c5 _ g4).mono ?_;rintro e w5 ⟨rfl,hb5⟩;have f5:=zag hb5 f4;have g5:=thn3 g4 hb5)
    | (go_at_call 6;have hq:=hb3;refine (c4 _ g3).mono ?_;rintro e w4 ⟨rfl,hb4⟩;have f4:=zag hb4 f3;have g4:=thn3 g3 hb4)
    | (go_at_call 6;refine c3'.mono ?_;rintro e w3 ⟨rfl,hb3⟩;have f3:=zag hb3 f2;have g3:=thn3 g2 hb3))
   go_ret
   exact ⟨zav (by simp),g8⟩
  ·have t1 : (H == 0) = false:=by simpa using hH
   have t2 : decide (H = 0) = false:=by simpa using hH
   have t3 : (H != 0) = true:=by simpa using hH
   clear hs3
   go_wp2_with (first
    | (go_at_call 14;refine (c8' _ g7 HM7.out).mono ?_;rintro e w8 ⟨rfl,hb8⟩;have g8:=thn3 g7 hb8)
    | (go_at_call 13;have hq:=hb6;refine (c6' _ g6 HM6.out).mono ?_;rintro e w7 ⟨rfl,hb7⟩;have f7:=zag hb7 f6;have g7:=thn3 g6 hb7;have HM7:=(zab (HM6.out.keep hb7)))
    | (go_at_call 13;have hq:=hb5;refine (c7 _ g5).mono ?_;rintro e w6 ⟨rfl,hb6⟩;have f6:=zag hb6 f5;have g6:=thn3 g5 hb6;have HM6:=(zab ((((HM2.out.keep hb3).keep hb4).keep hb5).keep hb6)))
    | (go_at_call 6;have hq:=hb4;refine (c5 _ g4).mono ?_;rintro e w5 ⟨rfl,hb5⟩;have f5:=zag hb5 f4;have g5:=thn3 g4 hb5)
    | (go_at_call 6;have hq:=hb3;refine (c4 _ g3).mono ?_;rintro e w4 ⟨rfl,hb4⟩;have f4:=zag hb4 f3;have g4:=thn3 g3 hb4)
    | (go_at_call 6;refine c3'.mono ?_;rintro e w3 ⟨rfl,hb3⟩;have f3:=zag hb3 f2;have g3:=thn3 g2 hb3))
   go_ret
   exact ⟨zav (by simp),g8⟩
  ·have t1 : (N == (ms.length : Int)) = false:=by simpa using hN
   have t2 : decide (N = (ms.length : Int)) = false:=by simpa using hN
   have t3 : (N != (ms.length : Int)) = true:=by simpa using hN
   clear hs3
   go_wp2_with (first
    | (go_at_call 14;refine (c8' _ g7 HM7.out).mono ?_;rintro e w8 ⟨rfl,hb8⟩;have g8:=thn3 g7 hb8)
    | (go_at_call 13;have hq:=hb6;refine (c6' _ g6 HM6.out).mono ?_;rintro e w7 ⟨rfl,hb7⟩;have f7:=zag hb7 f6;have g7:=thn3 g6 hb7;have HM7:=(zab (HM6.out.keep hb7)))
    | (go_at_call 13;have hq:=hb5;refine (c7 _ g5).mono ?_;rintro e w6 ⟨rfl,hb6⟩;have f6:=zag hb6 f5;have g6:=thn3 g5 hb6;have HM6:=(zab ((((HM2.out.keep hb3).keep hb4).keep hb5).keep hb6)))
    | (go_at_call 6;have hq:=hb4;refine (c5 _ g4).mono ?_;rintro e w5 ⟨rfl,hb5⟩;have f5:=zag hb5 f4;have g5:=thn3 g4 hb5)
    | (go_at_call 6;have hq:=hb3;refine (c4 _ g3).mono ?_;rintro e w4 ⟨rfl,hb4⟩;have f4:=zag hb4 f3;have g4:=thn3 g3 hb4)
    | (go_at_call 6;refine c3'.mono ?_;rintro e w3 ⟨rfl,hb3⟩;have f3:=zag hb3 f2;have g3:=thn3 g2 hb3))
   go_ret
   exact ⟨zav (by simp),g8⟩
  ·have t1 : ((ms.length : Int) == (ms.length : Int)) = true:=by simp
   clear hs3
   go_wp2_with (first
    | (go_at_call 14;refine (c8' _ g7 HM7.out).mono ?_;rintro e w8 ⟨rfl,hb8⟩;have g8:=thn3 g7 hb8)
    | (go_at_call 13;have hq:=hb6;refine (c6' _ g6 HM6.out).mono ?_;rintro e w7 ⟨rfl,hb7⟩;have f7:=zag hb7 f6;have g7:=thn3 g6 hb7;have HM7:=(zab (HM6.out.keep hb7)))
    | (go_at_call 13;have hq:=hb5;refine (c7 _ g5).mono ?_;rintro e w6 ⟨rfl,hb6⟩;have f6:=zag hb6 f5;have g6:=thn3 g5 hb6;have HM6:=(zab ((((HM2.out.keep hb3).keep hb4).keep hb5).keep hb6)))
    | (go_at_call 6;have hq:=hb4;refine (c5 _ g4).mono ?_;rintro e w5 ⟨rfl,hb5⟩;have f5:=zag hb5 f4;have g5:=thn3 g4 hb5)
    | (go_at_call 6;have hq:=hb3;refine (c4 _ g3).mono ?_;rintro e w4 ⟨rfl,hb4⟩;have f4:=zag hb4 f3;have g4:=thn3 g3 hb4)
    | (go_at_call 6;refine c3'.mono ?_;rintro e w3 ⟨rfl,hb3⟩;have f3:=zag hb3 f2;have g3:=thn3 g2 hb3))
   go_ret
   exact ⟨zav (by simp),g8⟩
theorem zod (f : zad) (sa ta va : Option Addr) (sl sc tl tc vl vc : Nat) (ms : List (Int × Int)) (ma : Option Addr) (mc : Nat) (w : World) (hf : FleetAt w sa sl sc ta tl tc va vl vc f) (hml : ms.length <= 2000000) (hm : MvsAt w ma ms) (haw : ∀ W,Calls Try.prog 5 #[] W fun e W' => e = .returned (.bool true) /\ Below W.heap.size W W') :
  Calls Try.prog 4 #[.agg #[.slice sa sl sc,.slice ta tl tc,.slice va vl vc],.slice ma ms.length mc] w fun e W => e = .returned (.bool true) /\ Below w.heap.size w W:=by
 cases hob : ordB f with
 | false => exact zoa f sa ta va sl sc tl tc vl vc ms ma mc w hf hml hm haw hob
 | true =>
  cases hsn : sndB (zac f) with
  | false => exact zoc f sa ta va sl sc tl tc vl vc ms ma mc w hf hml hm haw hob hsn
  | true => exact zoe f sa ta va sl sc tl tc vl vc ms ma mc w hf hml hm haw hob hsn
end
section
open Go.RowKit Go.ChangeShapes Go.WideShapes
theorem zkw {H : Type} (d : DataW H) : 1 <= Rows.uptoBulk d:=by
 cases d with
 | lit l => cases l <;> simp [Rows.uptoBulk]
 | _ => simp [Rows.uptoBulk]
theorem zfd {H : Type} : ∀ (l : List (DataW H)) (d : DataW H),d ∈ l -> Rows.uptoBulk d <= Rows.uptoBulkAll l
 | e :: l,d,h => by
  rw [Rows.uptoBulkAll]
  rcases List.mem_cons.1 h with rfl | h
  ·omega
  ·have:=zfd l d h;omega
theorem zfc {H : Type} : ∀ (l : List (DataW H)),l.length <= Rows.uptoBulkAll l
 | [] => Nat.zero_le _
 | d :: l => by have:=zkw d;have:=zfc l;rw [Rows.uptoBulkAll,List.length_cons];omega
theorem zhv {α : Type} {p : Nat -> α -> Prop} : ∀ (n : Nat),(∀ i,i < n -> ∃ z,p i z) -> ∃ zs : List α,zs.length = n /\ ∀ i z,zs[i]? = some z -> p i z
 | 0,_ => ⟨[],rfl,fun i z h => by simp at h⟩
 | n + 1,h => by
  obtain ⟨zs,h1,h2⟩:=zhv n (fun i hi => h i (by omega))
  obtain ⟨z,hz⟩:=h n (by omega)
  refine ⟨zs ++ [z],by simp [h1],fun i u hi => ?_⟩
  by_cases hl : i < zs.length
  ·rw [List.getElem?_append_left hl] at hi;exact h2 i u hi
  ·have:=(List.getElem?_eq_some_iff.1 hi).1
   rw [List.length_append,List.length_singleton] at this
   have hie : i = n:=by omega
   subst hie
   rw [List.getElem?_append_right (by omega),h1,Nat.sub_self] at hi
   simp at hi
   rw [<- hi];exact hz
section
variable {H : Type} {enc : TypeId × Value -> H} {P : Program} {w : World}
theorem zkg (b o m j : Nat) : ((⟨b,o,none⟩ : Addr).add m).add j = ⟨b,o + m + j,none⟩:=by
 unfold Addr.add
 by_cases h1 : m = 0
 ·subst h1
  by_cases h2 : j = 0
  ·subst h2;rfl
  ·simp [h2]
 ·by_cases h2 : j = 0
  ·subst h2;simp [h1]
  ·simp [h1,h2]
theorem zcy {α : Type} {E : List Value -> α -> Prop} {t e : TypeId} {k fuel : Nat} {cs0 : List Value} {x : DataW H × List MemPlace} (ht : P.underlying t = some (.slice e)) (hk : P.cellsOf e = k) (hk0 : 0 < k)
  (hE : ∀ (n : Nat) (cs : List Value) (y : DataW H × List MemPlace),DataW.trod enc P w 0 (fun _ => true) true n e cs = some y -> cs.length = k -> Rows.uptoBulk y.1 <= 1048576 -> ∃ z,E cs z)
  (h : DataW.trod enc P w 0 (fun _ => true) true fuel t cs0 = some x) (hN : Rows.uptoBulk x.1 <= 1048576) :
  ∃ (a : Option Addr) (len cap : Nat) (zs : List α),cs0 = [.slice a len cap] /\ len = zs.length /\ zs.length <= 2000000 /\ len <= cap /\ cap <= 9000000 /\
   ∀ (i : Nat) (z : α),zs[i]? = some z -> ∃ b o cs,a = some ⟨b,o,none⟩ /\ cs.length = k /\ (∀ (j : Nat) (v : Value),cs[j]? = some v -> w.cell? ⟨b,o + i * k + j,none⟩ = some v) /\ E cs z:=by
 rcases Go.Deep.open_slice ht h with ⟨rfl,rfl⟩ | ⟨a,len,cap,m,n,D,Pl,rfl,hb,hl,hm,hmm,rfl,hx⟩
 ·exact ⟨none,0,0,[],rfl,rfl,Nat.zero_le _,Nat.le_refl _,Nat.zero_le _,fun i z hi => by simp at hi⟩
 ·simp only [if_true] at hmm
  subst hmm
  rw [hk] at hx
  have hbul : Rows.uptoBulkAll ((List.range len).map D) + Rows.uptoBulkAll ((List.range (m - len)).map fun j => D (len + j)) + 1 <= 1048576:=by
   have:=hN;simp only [Rows.uptoBulk] at this;exact this
  have hl1:=zfc ((List.range len).map D)
  have hl2:=zfc ((List.range (m - len)).map fun j => D (len + j))
  rw [List.length_map,List.length_range] at hl1 hl2
  obtain ⟨zs,hz1,hz2⟩:=zhv (α:=α) (p:=fun i z => ∃ cs,w.cells? 0 (a.add (i * k)) k = some cs /\ E cs z) len (fun i hi => by
   obtain ⟨cs',h1,h2⟩:=hx i (by omega)
   have hd : Rows.uptoBulk (D i) <= 1048576:=by
    have:=zfd ((List.range len).map D) (D i) (List.mem_map.2 ⟨i,List.mem_range.2 hi,rfl⟩)
    omega
   obtain ⟨z,hz⟩:=hE n cs' (D i,Pl i) h2 (World.cells?_some h1).2.1 hd
   exact ⟨z,cs',h1,hz⟩)
  refine ⟨some a,len,m,zs,rfl,hz1.symm,by omega,hl,by omega,fun i z hi => ?_⟩
  obtain ⟨cs,h1,h2⟩:=hz2 i z hi
  have hil:=(List.getElem?_eq_some_iff.1 hi).1
  obtain ⟨cs',g1,_⟩:=hx 0 (by omega)
  obtain ⟨_,g2,g3⟩:=World.cells?_some g1
  have g4:=g3 0 hk0
  obtain ⟨v0,hv0⟩ : ∃ v0,cs'[0]? = some v0:=⟨cs'[0]'(by omega),List.getElem?_eq_getElem (by omega)⟩
  rw [hv0,Nat.zero_mul] at g4
  obtain ⟨b,o,sp⟩:=a
  obtain rfl : sp = none:=by simpa [Addr.add] using World.cell?_spot g4
  obtain ⟨_,q1,q2⟩:=World.cells?_some h1
  refine ⟨b,o,cs,rfl,q1,fun j v hj => ?_,h2⟩
  have:=q2 j (by have:=(List.getElem?_eq_some_iff.1 hj).1;omega)
  rw [zkg,hj] at this
  exact this
theorem zmu {t e : TypeId} {fuel : Nat} {cs0 : List Value} {x : DataW H × List MemPlace} (ht : P.underlying t = some (.slice e)) (he : P.underlying e = some .string) (hk : P.cellsOf e = 1)
  (h : DataW.trod enc P w 0 (fun _ => true) true fuel t cs0 = some x) (hN : Rows.uptoBulk x.1 <= 1048576) :
  ∃ (a : Option Addr) (len cap : Nat) (ss : List ByteArray),cs0 = [.slice a len cap] /\ len = ss.length /\ ss.length <= 2000000 /\ (∀ s ∈ ss,s.size <= maxLen) /\ StrsAt w a ss:=by
 obtain ⟨a,len,cap,zs,h1,h2,h3,h4,h5,h6⟩:=zcy (E:=fun cs (z : ByteArray) => cs = [.string z] /\ z.size <= maxLen) ht hk (by omega) (fun n cs y hy _ _ => by
  obtain ⟨s,hs,_,hsz⟩:=DataW.trod_string he hy
  exact ⟨s,hs,hsz⟩) h hN
 refine ⟨a,len,cap,zs,h1,h2,h3,fun s hs => ?_,fun i s hi => ?_⟩
 ·obtain ⟨i,hi⟩:=List.getElem?_of_mem hs
  obtain ⟨_,_,_,_,_,_,_,g⟩:=h6 i s hi
  exact g
 ·obtain ⟨b,o,cs,e1,_,e3,e4,_⟩:=h6 i s hi
  refine ⟨b,o,e1,?_⟩
  have:=e3 0 (.string s) (by rw [e4];rfl)
  rwa [Nat.mul_one,Nat.add_zero] at this
end
theorem zdd {H : Type} {parts : List (DataW H)} {d : DataW H} (h : Rows.uptoBulk (.agg parts) <= 1048576) (hd : d ∈ parts) : Rows.uptoBulk d <= 1048576:=by
 have:=zfd parts d hd
 simp only [Rows.uptoBulk] at h
 omega
section
variable {H : Type} {enc : TypeId × Value -> H} {w : World}
theorem Try.cellsInt : Try.prog.cellsOf 3 = 1:=by kernel_rfl
theorem Try.cellsStr : Try.prog.cellsOf 9 = 1:=by kernel_rfl
theorem Try.cellsTop : Try.prog.cellsOf 56 = 1:=by kernel_rfl
theorem Try.cellsPin : Try.prog.cellsOf 108 = 3:=by kernel_rfl
theorem Try.cellsRel : Try.prog.cellsOf 79 = 1:=by kernel_rfl
theorem Try.cellsSvc : Try.prog.cellsOf 60 = 4:=by kernel_rfl
theorem Try.cellsFlt : Try.prog.cellsOf 26 = 3:=by kernel_rfl
theorem Try.cellsPins : Try.prog.cellsOf 77 = 1:=by kernel_rfl
theorem Try.cellsRels : Try.prog.cellsOf 58 = 1:=by kernel_rfl
theorem zb9 {n : Nat} {c : Value} {y : DataW H × List MemPlace} (h : DataW.trod enc Try.prog w 0 (fun _ => true) true n 3 [c] = some y) : ∃ k,c = .int .i64 k:=by
 obtain ⟨k,hk,_⟩:=DataW.trod_int Try.underlying3 h
 simp at hk
 exact ⟨k,hk⟩
theorem zmw {fuel : Nat} {cs0 : List Value} {x : DataW H × List MemPlace} (h : DataW.trod enc Try.prog w 0 (fun _ => true) true fuel 23 cs0 = some x) (hN : Rows.uptoBulk x.1 <= 1048576) :
  ∃ (a : Option Addr) (len cap : Nat) (ts : List Int),cs0 = [.slice a len cap] /\ len = ts.length /\ ts.length <= 2000000 /\ IntsAt w a ts:=by
 obtain ⟨a,len,cap,zs,h1,h2,h3,h4,h5,h6⟩:=zcy (E:=fun cs (z : Int) => cs = [.int .i64 z]) Try.underlying23 Try.cellsTop (by omega) (fun n cs y hy hl _ => by
  obtain ⟨xs,m,_,_,_,hlen,hf⟩:=DataW.trod_struct Try.underlying56 hy
  match cs,hl with
  | [c],_ =>
   match xs,hlen with
   | [y0],_ =>
    have h0:=hf 0 _ rfl
    simp only [List.getElem_toArray,List.getElem_cons_zero,List.getElem_cons_succ,Try.cellsInt] at h0
    obtain ⟨k,hk⟩:=zb9 (c:=c) h0
    exact ⟨k,by rw [hk]⟩) h hN
 refine ⟨a,len,cap,zs,h1,h2,h3,fun i s hi => ?_⟩
 obtain ⟨b,o,cs,e1,_,e3,e4⟩:=h6 i s hi
 refine ⟨b,o,e1,?_⟩
 have:=e3 0 (.int .i64 s) (by rw [e4];rfl)
 rwa [Nat.mul_one,Nat.add_zero] at this
theorem zms {fuel : Nat} {cs0 : List Value} {x : DataW H × List MemPlace} (h : DataW.trod enc Try.prog w 0 (fun _ => true) true fuel 77 cs0 = some x) (hN : Rows.uptoBulk x.1 <= 1048576) :
  ∃ (a : Option Addr) (len cap : Nat) (ps : List PinD),cs0 = [.slice a len cap] /\ PinSl w a len cap ps:=by
 obtain ⟨a,len,cap,zs,h1,h2,h3,h4,h5,h6⟩:=zcy (E:=fun cs (p : PinD) => cs = [.int .i64 p.t,.int .i64 p.w,.int .i64 p.r]) Try.underlying77 Try.cellsPin (by omega) (fun n cs y hy hl _ => by
  obtain ⟨xs,m,_,_,_,hlen,hf⟩:=DataW.trod_struct Try.underlying108 hy
  match cs,hl with
  | [c0,c1,c2],_ =>
   match xs,hlen with
   | [y0,y1,y2],_ =>
    have h0:=hf 0 _ rfl
    have h1:=hf 1 _ rfl
    have h2:=hf 2 _ rfl
    simp only [List.getElem_toArray,List.getElem_cons_zero,List.getElem_cons_succ,Try.cellsInt] at h0 h1 h2
    obtain ⟨k0,hk0⟩:=zb9 (c:=c0) h0
    obtain ⟨k1,hk1⟩:=zb9 (c:=c1) h1
    obtain ⟨k2,hk2⟩:=zb9 (c:=c2) h2
    exact ⟨⟨k0,k1,k2⟩,by rw [hk0,hk1,hk2]⟩) h hN
 refine ⟨a,len,cap,zs,h1,h2,h3,h4,h5,fun i p hi => ?_⟩
 obtain ⟨b,o,cs,e1,_,e3,e4⟩:=h6 i p hi
 subst e4
 exact ⟨b,o,e1,e3 0 _ rfl,e3 1 _ rfl,e3 2 _ rfl⟩
theorem zmt {fuel : Nat} {cs0 : List Value} {x : DataW H × List MemPlace} (h : DataW.trod enc Try.prog w 0 (fun _ => true) true fuel 58 cs0 = some x) (hN : Rows.uptoBulk x.1 <= 1048576) :
  ∃ (a : Option Addr) (len cap : Nat) (rs : List (List PinD)),cs0 = [.slice a len cap] /\ RelSl PinSl w a len cap rs:=by
 obtain ⟨a,len,cap,zs,h1,h2,h3,h4,h5,h6⟩:=zcy (E:=fun cs (ps : List PinD) => ∃ pa pl pc,cs = [.slice pa pl pc] /\ PinSl w pa pl pc ps) Try.underlying58 Try.cellsRel (by omega) (fun n cs y hy hl hy2 => by
  obtain ⟨xs,m,_,hx,_,hlen,hf⟩:=DataW.trod_struct Try.underlying79 hy
  match cs,hl with
  | [c],_ =>
   match xs,hlen with
   | [y0],_ =>
    have h0:=hf 0 _ rfl
    simp only [List.getElem_toArray,List.getElem_cons_zero,List.getElem_cons_succ,Try.cellsPins] at h0
    rw [hx] at hy2
    obtain ⟨pa,pl,pc,ps,hc,hps⟩:=zms (cs0:=[c]) h0 (zdd hy2 (by simp))
    exact ⟨ps,pa,pl,pc,hc,hps⟩) h hN
 refine ⟨a,len,cap,zs,h1,h2,h3,h4,h5,fun i ps hi => ?_⟩
 obtain ⟨b,o,cs,e1,_,e3,pa,pl,pc,e4,e5⟩:=h6 i ps hi
 subst e4
 have:=e3 0 _ rfl
 rw [Nat.mul_one,Nat.add_zero] at this
 exact ⟨b,o,pa,pl,pc,e1,this,e5⟩
theorem zmv {fuel : Nat} {cs0 : List Value} {x : DataW H × List MemPlace} (h : DataW.trod enc Try.prog w 0 (fun _ => true) true fuel 24 cs0 = some x) (hN : Rows.uptoBulk x.1 <= 1048576) :
  ∃ (a : Option Addr) (len cap : Nat) (vs : List SvcD),cs0 = [.slice a len cap] /\ len = vs.length /\ vs.length <= 2000000 /\ SvcsAt (RelSl PinSl) w a vs:=by
 obtain ⟨a,len,cap,zs,h1,h2,h3,h4,h5,h6⟩:=zcy (E:=fun cs (v : SvcD) => ∃ ra rl rc,cs = [.int .i64 v.size,.int .i64 v.now,.int .i64 v.want,.slice ra rl rc] /\ RelSl PinSl w ra rl rc v.rels) Try.underlying24 Try.cellsSvc (by omega) (fun n cs y hy hl hy2 => by
  obtain ⟨xs,m,_,hx,_,hlen,hf⟩:=DataW.trod_struct Try.underlying60 hy
  match cs,hl with
  | [c0,c1,c2,c3],_ =>
   match xs,hlen with
   | [y0,y1,y2,y3],_ =>
    have h0:=hf 0 _ rfl
    have h1:=hf 1 _ rfl
    have h2:=hf 2 _ rfl
    have h3:=hf 3 _ rfl
    simp only [List.getElem_toArray,List.getElem_cons_zero,List.getElem_cons_succ,Try.cellsInt,Try.cellsRels] at h0 h1 h2 h3
    obtain ⟨k0,hk0⟩:=zb9 (c:=c0) h0
    obtain ⟨k1,hk1⟩:=zb9 (c:=c1) h1
    obtain ⟨k2,hk2⟩:=zb9 (c:=c2) h2
    rw [hx] at hy2
    obtain ⟨ra,rl,rc,rs,hc,hrs⟩:=zmt (cs0:=[c3]) h3 (zdd hy2 (by simp))
    simp at hc
    exact ⟨⟨k0,k1,k2,rs⟩,ra,rl,rc,by rw [hk0,hk1,hk2,hc],hrs⟩) h hN
 refine ⟨a,len,cap,zs,h1,h2,h3,fun i v hi => ?_⟩
 obtain ⟨b,o,cs,e1,_,e3,ra,rl,rc,e4,e5⟩:=h6 i v hi
 subst e4
 exact ⟨b,o,ra,rl,rc,e1,e3 0 _ rfl,e3 1 _ rfl,e3 2 _ rfl,e3 3 _ rfl,e5⟩
end
end
end Go.Proofs.Ytkkekopomiehlab
