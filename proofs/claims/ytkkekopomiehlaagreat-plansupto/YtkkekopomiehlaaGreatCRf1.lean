import Derived.Test.YtkkekopomiehlaaGreatCSm6
set_option linter.unusedVariables false
set_option linter.unusedSimpArgs false
set_option maxHeartbeats 40000000
namespace Go.Proofs.YtkkekopomiehlaaGreat
section
set_option maxRecDepth 4000
open Go.RowKit
theorem zku (n c : Int) (w : World) : Calls Tryz.prog 76 #[.int .i64 n,.int .i64 c] w fun e w' => e = .returned (.bool (numB n c)) /\ w = w':=by
 unfold numB
 by_cases h0 : 0 <= n
 ·go_enter Tryz.func76,Tryz.ntmps76
  go_wp2_with fail
  go_ret
  exact ⟨za9 (by simp [h0]),rfl⟩
 ·go_enter Tryz.func76,Tryz.ntmps76
  go_wp2_with fail
  go_ret
  exact ⟨za9 (by simp;omega),rfl⟩
def zcm (ns nt : Nat) (ps : List PinD) (i : Nat) : Bool :=
 match ps[i]? with
 | some p => pinB ns nt p && (ps.drop (i + 1)).all fun q => !(p.t == q.t)
 | none => true
def zcn (ns nt : Nat) (ps : List PinD) : Bool:=decide (ps.length <= 4) && (List.range ps.length).all (zcm ns nt ps)
theorem zye (ns nt : Nat) (ps : List PinD) : zcn ns nt ps = zb9 ns nt ps:=by
 unfold zcn zb9
 congr 1
 rw [Bool.eq_iff_iff,List.all_eq_true,List.all_eq_true]
 have key : ∀ (F : Nat -> Bool),(∀ x ∈ List.range ps.length,F x = true) ↔ ∀ x,x < ps.length -> F x = true:=fun F => ⟨fun h x hx => h x (List.mem_range.2 hx),fun h x hx => h x (List.mem_range.1 hx)⟩
 rw [key,key]
 constructor
 ·intro h x hx
  have hxs : ps[x]? = some ps[x]:=List.getElem?_eq_getElem hx
  have h1:=h x hx
  unfold zcm at h1
  rw [hxs] at h1
  unfold pinK
  rw [hxs]
  simp only [Bool.and_eq_true] at h1 ⊢
  refine ⟨h1.1,?_⟩
  rw [Bool.not_eq_true',List.any_eq_false]
  intro q hq
  obtain ⟨j,hj⟩:=List.getElem?_of_mem hq
  have hjx : j < x:=by have:=(List.getElem?_eq_some_iff.1 hj).1;rw [List.length_take] at this;omega
  rw [List.getElem?_take_of_lt hjx] at hj
  have h2:=h j (by omega)
  unfold zcm at h2
  rw [hj] at h2
  simp only [Bool.and_eq_true,List.all_eq_true] at h2
  have h3:=h2.2 ps[x] (List.mem_of_getElem? (i:=x - (j + 1)) (by rw [List.getElem?_drop,show j + 1 + (x - (j + 1)) = x by omega,hxs]))
  simpa using h3
 ·intro h x hx
  have hxs : ps[x]? = some ps[x]:=List.getElem?_eq_getElem hx
  have h1:=h x hx
  unfold pinK at h1
  rw [hxs] at h1
  unfold zcm
  rw [hxs]
  simp only [Bool.and_eq_true] at h1 ⊢
  refine ⟨h1.1,?_⟩
  rw [List.all_eq_true]
  intro q hq
  obtain ⟨j,hj⟩:=List.getElem?_of_mem hq
  rw [List.getElem?_drop] at hj
  have hjl : x + 1 + j < ps.length:=(List.getElem?_eq_some_iff.1 hj).1
  have h2:=h (x + 1 + j) hjl
  unfold pinK at h2
  rw [hj] at h2
  simp only [Bool.and_eq_true,Bool.not_eq_true',List.any_eq_false] at h2
  have h3:=h2.2 ps[x] (List.mem_of_getElem? (i:=x) (by rw [List.getElem?_take_of_lt (by omega),hxs]))
  simpa using h3
theorem zyd (ns nt : Nat) (ps : List PinD) (sa ta va : Option Addr) (sc tc vl vc : Nat) (hns : ns <= 2000000) (hnt : nt <= 2000000) (w : World) (a : Option Addr) (l cap : Nat) (hp : PinSl w a l cap ps) :
  Calls Tryz.prog 55 #[.agg #[.slice sa ns sc,.slice ta nt tc,.slice va vl vc],.slice a l cap] w fun e w' => e = .returned (.bool (zcn ns nt ps)) /\ Below w.heap.size w w':=by
 obtain ⟨rfl,hl,hlc,hc9,hp⟩:=hp
 obtain ⟨R,hR⟩ : ∃ R,R = zcn ns nt ps:=⟨_,rfl⟩
 rw [<- hR]
 by_cases h4 : ps.length <= 4
 ·have HR : Hid (R = (List.range ps.length).all (zcm ns nt ps)):=by show _ = _;rw [hR];unfold zcn;rw [decide_eq_true h4];rfl
  clear hR
  go_enter Tryz.func55,Tryz.ntmps55
  go_wp2_with fail
  go_loopw [5] (fun vi wr => ∃ i : Nat,i <= ps.length /\ vi = .int .i64 i /\ Hid ((List.range i).all (zcm ns nt ps) = true) /\ Below (w.alloc (.cells #[.slice sa ns sc,.slice ta nt tc,.slice va vl vc] 26)).heap.size (w.alloc (.cells #[.slice sa ns sc,.slice ta nt tc,.slice va vl vc] 26)) wr) (fun i _ => ps.length - (intOf i).toNat)
  case atStart => exact ⟨0,Nat.zero_le _,rfl,(by show _ = _;rfl),Below.refl _ _⟩
  case round =>
   obtain ⟨i,hi,rfl,hn,hb⟩:=hrel
   have hbw:=thn3 (bel1 _ _) hb
   by_cases hlt : i < ps.length
   ·obtain ⟨p,hpi⟩ : ∃ p,ps[i]? = some p:=⟨ps[i],List.getElem?_eq_getElem hlt⟩
    obtain ⟨b,o,rfl,d0,d1,d2⟩:=hp i p hpi
    have c0:=zaa hbw d0
    have c1:=zaa hbw d1
    have c2:=zaa hbw d2
    have hbl:=zaf c0
    obtain ⟨f0,f1,f2⟩:=zak hb (box3 w _ _ _ _)
    have hfl : w.heap.size < wr.heap.size:=zaf f0
    have hx0 := znn i
    have hx1 : (i : Int) < (ps.length : Int):=by omega
    have k0:=d0
    clear d0 d1 d2
    have hK : zcm ns nt ps i = (pinB ns nt p && (ps.drop (i + 1)).all fun q => !(p.t == q.t)):=by unfold zcm;rw [hpi]
    have hno : zcm ns nt ps i = false -> R = false:=fun h => by rw [HR.out];exact zmd hlt h
    have hyes : zcm ns nt ps i = true -> Hid ((List.range (i + 1)).all (zcm ns nt ps) = true):=fun h => by show _ = _;rw [zmc,hn.out,h];rfl
    obtain ⟨x,y,z⟩:=p
    simp only at c0 c1 c2 hK k0
    have h1:=fun w => zku x nt w
    have h2:=fun w => zku y ns w
    have h3:=fun w => zku z ns w
    unfold pinB at hK
    simp only at hK
    generalize numB x nt = b1 at h1 hK
    generalize numB y ns = b2 at h2 hK
    generalize numB z ns = b3 at h3 hK
    by_cases hy : y = -1
    ·subst hy
     clear h2
     rw [show ((-1 : Int) == -1) = true from rfl,Bool.true_or] at hK
     by_cases hz : z = -1
     ·subst hz
      clear h3
      rw [show ((-1 : Int) == -1) = true from rfl,Bool.true_or] at hK
      go_wp2_with fail
      go_region_held3 (fun w' => (w'.cell? ⟨w.heap.size,0,none⟩ = some (.slice sa ns sc) /\ w'.cell? ⟨w.heap.size,1,none⟩ = some (.slice ta nt tc)) /\ w'.cell? ⟨b,o + i * 3,none⟩ = some (.int .i64 x) /\ w'.cell? ⟨b,o + i * 3 + 1,none⟩ = some (.int .i64 (-1)) /\ w'.cell? ⟨b,o + i * 3 + 2,none⟩ = some (.int .i64 (-1))) (go_keep) (first | (go_at_call 76;refine (h1 _).mono ?_;rintro e _ ⟨rfl,rfl⟩))
      go_wp2_with fail
      refine wp_region_held_drew (S:=(fun w' => (w'.cell? ⟨w.heap.size,0,none⟩ = some (.slice sa ns sc) /\ w'.cell? ⟨w.heap.size,1,none⟩ = some (.slice ta nt tc)) /\ w'.cell? ⟨b,o + i * 3,none⟩ = some (.int .i64 x) /\ w'.cell? ⟨b,o + i * 3 + 1,none⟩ = some (.int .i64 (-1)) /\ w'.cell? ⟨b,o + i * 3 + 2,none⟩ = some (.int .i64 (-1)))) (by kernel_rfl) (by go_keep) (fun hH => ?_)
      refine wpAnyH_take (i:=0) (v:=?_) rfl (by kernel_rfl) (by kernel_rfl) (by kernel_rfl) (fun _ _ _ h => h) (Or.inl ⟨by rfl,?_⟩) hH ?_
      rotate_left
      ·intro w' hS';(try dsimp only at hS');go_simp <;> (try with_reducible rfl)
      simp only [Act.put,List.setIfInBounds_toArray,List.set_cons_zero,List.set_cons_succ,List.getElem_toArray,List.getElem_cons_zero,List.getElem_cons_succ]
      refine wpAnyH_take (i:=1) (v:=?_) rfl (by kernel_rfl) (by kernel_rfl) (by kernel_rfl) (fun _ _ _ h => h) (Or.inl ⟨by rfl,?_⟩) hH ?_
      rotate_left
      ·intro w' hS';(try dsimp only at hS');go_simp <;> (try with_reducible rfl)
      simp only [Act.put,List.setIfInBounds_toArray,List.set_cons_zero,List.set_cons_succ,List.getElem_toArray,List.getElem_cons_zero,List.getElem_cons_succ]
      refine wpAnyH_take (i:=2) (v:=?_) rfl (by kernel_rfl) (by kernel_rfl) (by kernel_rfl) (fun _ _ _ h => h) (Or.inl ⟨by rfl,?_⟩) hH ?_
      rotate_left
      ·intro w' hS';(try dsimp only at hS');go_simp <;> (try with_reducible rfl)
      simp only [Act.put,List.setIfInBounds_toArray,List.set_cons_zero,List.set_cons_succ,List.getElem_toArray,List.getElem_cons_zero,List.getElem_cons_succ]
      refine wpAnyH_take (i:=3) (v:=?_) rfl (by kernel_rfl) (by kernel_rfl) (by kernel_rfl) (fun _ _ _ h => h) (Or.inl ⟨by rfl,?_⟩) hH ?_
      rotate_left
      ·intro w' hS';(try dsimp only at hS');go_simp <;> (try with_reducible rfl)
      simp only [Act.put,List.setIfInBounds_toArray,List.set_cons_zero,List.set_cons_succ,List.getElem_toArray,List.getElem_cons_zero,List.getElem_cons_succ]
      refine wpAnyH_take (i:=4) (v:=?_) rfl (by kernel_rfl) (by kernel_rfl) (by kernel_rfl) (fun _ _ _ h => h) (Or.inl ⟨by rfl,?_⟩) hH ?_
      rotate_left
      ·intro w' hS';(try dsimp only at hS');go_simp <;> (try with_reducible rfl)
      simp only [Act.put,List.setIfInBounds_toArray,List.set_cons_zero,List.set_cons_succ,List.getElem_toArray,List.getElem_cons_zero,List.getElem_cons_succ]
      refine wpAnyH_take (i:=5) (v:=?_) rfl (by kernel_rfl) (by kernel_rfl) (by kernel_rfl) (fun _ _ _ h => h) (Or.inl ⟨by rfl,?_⟩) hH ?_
      rotate_left
      ·intro w' hS';(try dsimp only at hS');go_simp <;> (try with_reducible rfl)
      simp only [Act.put,List.setIfInBounds_toArray,List.set_cons_zero,List.set_cons_succ,List.getElem_toArray,List.getElem_cons_zero,List.getElem_cons_succ]
      refine wpAnyH_take (i:=6) (v:=?_) rfl (by kernel_rfl) (by kernel_rfl) (by kernel_rfl) (fun _ _ _ h => h) (Or.inl ⟨by rfl,?_⟩) hH ?_
      rotate_left
      ·intro w' hS';(try dsimp only at hS');go_simp <;> (try with_reducible rfl)
      simp only [Act.put,List.setIfInBounds_toArray,List.set_cons_zero,List.set_cons_succ,List.getElem_toArray,List.getElem_cons_zero,List.getElem_cons_succ]
      refine wpAnyH_take (i:=7) (v:=undef) rfl (by kernel_rfl) (by kernel_rfl) (by kernel_rfl) (fun _ _ _ h => h) (Or.inr ⟨by rfl,rfl⟩) hH ?_
      simp only [Act.put,List.setIfInBounds_toArray,List.set_cons_zero,List.set_cons_succ,List.getElem_toArray,List.getElem_cons_zero,List.getElem_cons_succ]
      refine wpAnyH_take (i:=8) (v:=undef) rfl (by kernel_rfl) (by kernel_rfl) (by kernel_rfl) (fun _ _ _ h => h) (Or.inr ⟨by rfl,rfl⟩) hH ?_
      simp only [Act.put,List.setIfInBounds_toArray,List.set_cons_zero,List.set_cons_succ,List.getElem_toArray,List.getElem_cons_zero,List.getElem_cons_succ]
      refine wpAnyH_take (i:=9) (v:=undef) rfl (by kernel_rfl) (by kernel_rfl) (by kernel_rfl) (fun _ _ _ h => h) (Or.inr ⟨by rfl,rfl⟩) hH ?_
      simp only [Act.put,List.setIfInBounds_toArray,List.set_cons_zero,List.set_cons_succ,List.getElem_toArray,List.getElem_cons_zero,List.getElem_cons_succ]
      refine wpAnyH_take (i:=10) (v:=undef) rfl (by kernel_rfl) (by kernel_rfl) (by kernel_rfl) (fun _ _ _ h => h) (Or.inr ⟨by rfl,rfl⟩) hH ?_
      simp only [Act.put,List.setIfInBounds_toArray,List.set_cons_zero,List.set_cons_succ,List.getElem_toArray,List.getElem_cons_zero,List.getElem_cons_succ]
      refine wpAnyH_take (i:=11) (v:=undef) rfl (by kernel_rfl) (by kernel_rfl) (by kernel_rfl) (fun _ _ _ h => h) (Or.inr ⟨by rfl,rfl⟩) hH ?_
      simp only [Act.put,List.setIfInBounds_toArray,List.set_cons_zero,List.set_cons_succ,List.getElem_toArray,List.getElem_cons_zero,List.getElem_cons_succ]
      refine wpAnyH_take (i:=12) (v:=undef) rfl (by kernel_rfl) (by kernel_rfl) (by kernel_rfl) (fun _ _ _ h => h) (Or.inr ⟨by rfl,rfl⟩) hH ?_
      simp only [Act.put,List.setIfInBounds_toArray,List.set_cons_zero,List.set_cons_succ,List.getElem_toArray,List.getElem_cons_zero,List.getElem_cons_succ]
      refine wpAnyH_take (i:=13) (v:=undef) rfl (by kernel_rfl) (by kernel_rfl) (by kernel_rfl) (fun _ _ _ h => h) (Or.inr ⟨by rfl,rfl⟩) hH ?_
      simp only [Act.put,List.setIfInBounds_toArray,List.set_cons_zero,List.set_cons_succ,List.getElem_toArray,List.getElem_cons_zero,List.getElem_cons_succ]
      refine wpAnyH_take (i:=14) (v:=undef) rfl (by kernel_rfl) (by kernel_rfl) (by kernel_rfl) (fun _ _ _ h => h) (Or.inr ⟨by rfl,rfl⟩) hH ?_
      simp only [Act.put,List.setIfInBounds_toArray,List.set_cons_zero,List.set_cons_succ,List.getElem_toArray,List.getElem_cons_zero,List.getElem_cons_succ]
      refine wpAnyH_take (i:=15) (v:=undef) rfl (by kernel_rfl) (by kernel_rfl) (by kernel_rfl) (fun _ _ _ h => h) (Or.inr ⟨by rfl,rfl⟩) hH ?_
      simp only [Act.put,List.setIfInBounds_toArray,List.set_cons_zero,List.set_cons_succ,List.getElem_toArray,List.getElem_cons_zero,List.getElem_cons_succ]
      refine wpAnyH_take (i:=16) (v:=?_) rfl (by kernel_rfl) (by kernel_rfl) (by kernel_rfl) (fun _ _ _ h => h) (Or.inl ⟨by rfl,?_⟩) hH ?_
      rotate_left
      ·intro w' hS';(try dsimp only at hS');go_simp <;> (try with_reducible rfl)
      simp only [Act.put,List.setIfInBounds_toArray,List.set_cons_zero,List.set_cons_succ,List.getElem_toArray,List.getElem_cons_zero,List.getElem_cons_succ]
      refine wpAnyH_take (i:=17) (v:=?_) rfl (by kernel_rfl) (by kernel_rfl) (by kernel_rfl) (fun _ _ _ h => h) (Or.inl ⟨by rfl,?_⟩) hH ?_
      rotate_left
      ·intro w' hS';(try dsimp only at hS');go_simp <;> (try with_reducible rfl)
      simp only [Act.put,List.setIfInBounds_toArray,List.set_cons_zero,List.set_cons_succ,List.getElem_toArray,List.getElem_cons_zero,List.getElem_cons_succ]
      refine wpAnyH_done (by kernel_rfl) ?_ _
      go_wp2_with fail
      refine wp_region_held_drew (S:=(fun w' => (w'.cell? ⟨w.heap.size,0,none⟩ = some (.slice sa ns sc) /\ w'.cell? ⟨w.heap.size,1,none⟩ = some (.slice ta nt tc)) /\ w'.cell? ⟨b,o + i * 3,none⟩ = some (.int .i64 x) /\ w'.cell? ⟨b,o + i * 3 + 1,none⟩ = some (.int .i64 (-1)) /\ w'.cell? ⟨b,o + i * 3 + 2,none⟩ = some (.int .i64 (-1)))) (by kernel_rfl) (by go_keep) (fun hH => ?_)
      refine wpAnyH_take (i:=0) (v:=?_) rfl (by kernel_rfl) (by kernel_rfl) (by kernel_rfl) (fun _ _ _ h => h) (Or.inl ⟨by rfl,?_⟩) hH ?_
      rotate_left
      ·intro w' hS';(try dsimp only at hS');go_simp <;> (try with_reducible rfl)
      simp only [Act.put,List.setIfInBounds_toArray,List.set_cons_zero,List.set_cons_succ,List.getElem_toArray,List.getElem_cons_zero,List.getElem_cons_succ]
      refine wpAnyH_take (i:=1) (v:=?_) rfl (by kernel_rfl) (by kernel_rfl) (by kernel_rfl) (fun _ _ _ h => h) (Or.inl ⟨by rfl,?_⟩) hH ?_
      rotate_left
      ·intro w' hS';(try dsimp only at hS');go_simp <;> (try with_reducible rfl)
      simp only [Act.put,List.setIfInBounds_toArray,List.set_cons_zero,List.set_cons_succ,List.getElem_toArray,List.getElem_cons_zero,List.getElem_cons_succ]
      refine wpAnyH_take (i:=2) (v:=?_) rfl (by kernel_rfl) (by kernel_rfl) (by kernel_rfl) (fun _ _ _ h => h) (Or.inl ⟨by rfl,?_⟩) hH ?_
      rotate_left
      ·intro w' hS';(try dsimp only at hS');go_simp <;> (try with_reducible rfl)
      simp only [Act.put,List.setIfInBounds_toArray,List.set_cons_zero,List.set_cons_succ,List.getElem_toArray,List.getElem_cons_zero,List.getElem_cons_succ]
      refine wpAnyH_take (i:=3) (v:=?_) rfl (by kernel_rfl) (by kernel_rfl) (by kernel_rfl) (fun _ _ _ h => h) (Or.inl ⟨by rfl,?_⟩) hH ?_
      rotate_left
      ·intro w' hS';(try dsimp only at hS');go_simp <;> (try with_reducible rfl)
      simp only [Act.put,List.setIfInBounds_toArray,List.set_cons_zero,List.set_cons_succ,List.getElem_toArray,List.getElem_cons_zero,List.getElem_cons_succ]
      refine wpAnyH_take (i:=4) (v:=?_) rfl (by kernel_rfl) (by kernel_rfl) (by kernel_rfl) (fun _ _ _ h => h) (Or.inl ⟨by rfl,?_⟩) hH ?_
      rotate_left
      ·intro w' hS';(try dsimp only at hS');go_simp <;> (try with_reducible rfl)
      simp only [Act.put,List.setIfInBounds_toArray,List.set_cons_zero,List.set_cons_succ,List.getElem_toArray,List.getElem_cons_zero,List.getElem_cons_succ]
      refine wpAnyH_take (i:=5) (v:=?_) rfl (by kernel_rfl) (by kernel_rfl) (by kernel_rfl) (fun _ _ _ h => h) (Or.inl ⟨by rfl,?_⟩) hH ?_
      rotate_left
      ·intro w' hS';(try dsimp only at hS');go_simp <;> (try with_reducible rfl)
      simp only [Act.put,List.setIfInBounds_toArray,List.set_cons_zero,List.set_cons_succ,List.getElem_toArray,List.getElem_cons_zero,List.getElem_cons_succ]
      refine wpAnyH_take (i:=6) (v:=?_) rfl (by kernel_rfl) (by kernel_rfl) (by kernel_rfl) (fun _ _ _ h => h) (Or.inl ⟨by rfl,?_⟩) hH ?_
      rotate_left
      ·intro w' hS';(try dsimp only at hS');go_simp <;> (try with_reducible rfl)
      simp only [Act.put,List.setIfInBounds_toArray,List.set_cons_zero,List.set_cons_succ,List.getElem_toArray,List.getElem_cons_zero,List.getElem_cons_succ]
      refine wpAnyH_take (i:=7) (v:=undef) rfl (by kernel_rfl) (by kernel_rfl) (by kernel_rfl) (fun _ _ _ h => h) (Or.inr ⟨by rfl,rfl⟩) hH ?_
      simp only [Act.put,List.setIfInBounds_toArray,List.set_cons_zero,List.set_cons_succ,List.getElem_toArray,List.getElem_cons_zero,List.getElem_cons_succ]
      refine wpAnyH_take (i:=8) (v:=undef) rfl (by kernel_rfl) (by kernel_rfl) (by kernel_rfl) (fun _ _ _ h => h) (Or.inr ⟨by rfl,rfl⟩) hH ?_
      simp only [Act.put,List.setIfInBounds_toArray,List.set_cons_zero,List.set_cons_succ,List.getElem_toArray,List.getElem_cons_zero,List.getElem_cons_succ]
      refine wpAnyH_take (i:=9) (v:=undef) rfl (by kernel_rfl) (by kernel_rfl) (by kernel_rfl) (fun _ _ _ h => h) (Or.inr ⟨by rfl,rfl⟩) hH ?_
      simp only [Act.put,List.setIfInBounds_toArray,List.set_cons_zero,List.set_cons_succ,List.getElem_toArray,List.getElem_cons_zero,List.getElem_cons_succ]
      refine wpAnyH_take (i:=10) (v:=undef) rfl (by kernel_rfl) (by kernel_rfl) (by kernel_rfl) (fun _ _ _ h => h) (Or.inr ⟨by rfl,rfl⟩) hH ?_
      simp only [Act.put,List.setIfInBounds_toArray,List.set_cons_zero,List.set_cons_succ,List.getElem_toArray,List.getElem_cons_zero,List.getElem_cons_succ]
      refine wpAnyH_take (i:=11) (v:=undef) rfl (by kernel_rfl) (by kernel_rfl) (by kernel_rfl) (fun _ _ _ h => h) (Or.inr ⟨by rfl,rfl⟩) hH ?_
      simp only [Act.put,List.setIfInBounds_toArray,List.set_cons_zero,List.set_cons_succ,List.getElem_toArray,List.getElem_cons_zero,List.getElem_cons_succ]
      refine wpAnyH_take (i:=12) (v:=undef) rfl (by kernel_rfl) (by kernel_rfl) (by kernel_rfl) (fun _ _ _ h => h) (Or.inr ⟨by rfl,rfl⟩) hH ?_
      simp only [Act.put,List.setIfInBounds_toArray,List.set_cons_zero,List.set_cons_succ,List.getElem_toArray,List.getElem_cons_zero,List.getElem_cons_succ]
      refine wpAnyH_take (i:=13) (v:=undef) rfl (by kernel_rfl) (by kernel_rfl) (by kernel_rfl) (fun _ _ _ h => h) (Or.inr ⟨by rfl,rfl⟩) hH ?_
      simp only [Act.put,List.setIfInBounds_toArray,List.set_cons_zero,List.set_cons_succ,List.getElem_toArray,List.getElem_cons_zero,List.getElem_cons_succ]
      refine wpAnyH_take (i:=14) (v:=undef) rfl (by kernel_rfl) (by kernel_rfl) (by kernel_rfl) (fun _ _ _ h => h) (Or.inr ⟨by rfl,rfl⟩) hH ?_
      simp only [Act.put,List.setIfInBounds_toArray,List.set_cons_zero,List.set_cons_succ,List.getElem_toArray,List.getElem_cons_zero,List.getElem_cons_succ]
      refine wpAnyH_take (i:=15) (v:=undef) rfl (by kernel_rfl) (by kernel_rfl) (by kernel_rfl) (fun _ _ _ h => h) (Or.inr ⟨by rfl,rfl⟩) hH ?_
      simp only [Act.put,List.setIfInBounds_toArray,List.set_cons_zero,List.set_cons_succ,List.getElem_toArray,List.getElem_cons_zero,List.getElem_cons_succ]
      refine wpAnyH_take (i:=16) (v:=?_) rfl (by kernel_rfl) (by kernel_rfl) (by kernel_rfl) (fun _ _ _ h => h) (Or.inl ⟨by rfl,?_⟩) hH ?_
      rotate_left
      ·intro w' hS';(try dsimp only at hS');go_simp <;> (try with_reducible rfl)
      simp only [Act.put,List.setIfInBounds_toArray,List.set_cons_zero,List.set_cons_succ,List.getElem_toArray,List.getElem_cons_zero,List.getElem_cons_succ]
      refine wpAnyH_take (i:=17) (v:=?_) rfl (by kernel_rfl) (by kernel_rfl) (by kernel_rfl) (fun _ _ _ h => h) (Or.inl ⟨by rfl,?_⟩) hH ?_
      rotate_left
      ·intro w' hS';(try dsimp only at hS');go_simp <;> (try with_reducible rfl)
      simp only [Act.put,List.setIfInBounds_toArray,List.set_cons_zero,List.set_cons_succ,List.getElem_toArray,List.getElem_cons_zero,List.getElem_cons_succ]
      refine wpAnyH_done (by kernel_rfl) ?_ _
      cases b1 with
      | false =>
       have hR1:=hno (by rw [hK];rfl)
       clear hno hyes hK HR hn hp hpi
       subst hR1
       go_wp2_with fail
       go_ret
       exact ⟨rfl,hbw.drew.drew.drew⟩
      | true =>
       have hK' : zcm ns nt ps i = (ps.drop (i + 1)).all fun q => !(x == q.t):=by rw [hK];simp
       rw [hK'] at hno hyes
       clear hK hK' HR hn
       have hbW:=hb.drew.drew.drew
       go_wp2_with fail
       go_loopw [9] (fun vj wq => ∃ j : Nat,i + 1 <= j /\ j <= ps.length /\ vj = .int .i64 j /\ Hid (((ps.drop (i + 1)).take (j - (i + 1))).all (fun q => !(x == q.t)) = true) /\ Below (w.alloc (.cells #[.slice sa ns sc,.slice ta nt tc,.slice va vl vc] 26)).heap.size (w.alloc (.cells #[.slice sa ns sc,.slice ta nt tc,.slice va vl vc] 26)) wq) (fun j _ => ps.length - (intOf j).toNat)
       case atStart => exact ⟨i + 1,Nat.le_refl _,by omega,by go_num,(by show _ = _;rw [Nat.sub_self];rfl),hbW⟩
       case round =>
        obtain ⟨j,hj1,hj2,rfl,hall,hbq⟩:=hrel
        have hbwq:=thn3 (bel1 _ _) hbq
        have g0:=zaa hbwq k0
        have hbl2:=zaf g0
        by_cases hjl : j < ps.length
        ·obtain ⟨q,hqi⟩ : ∃ q,ps[j]? = some q:=⟨ps[j],List.getElem?_eq_getElem hjl⟩
         obtain ⟨b',o',hbo,q0,q1,q2⟩:=hp j q hqi
         simp only [Option.some.injEq,Addr.mk.injEq,and_true] at hbo
         obtain ⟨rfl,rfl⟩:=hbo
         have q0:=zaa hbwq q0
         have hdj : (ps.drop (i + 1))[j - (i + 1)]? = some q:=by rw [List.getElem?_drop,show i + 1 + (j - (i + 1)) = j by omega];exact hqi
         have hsn:=zcb (fun q : PinD => !(x == q.t)) hdj
         have hno' : (!(x == q.t)) = false -> R = false:=fun h => hno (zca hdj h)
         rw [hall.out,Bool.true_and,show j - (i + 1) + 1 = j + 1 - (i + 1) by omega] at hsn
         have hy0 := znn j
         have hy1 : (j : Int) < (ps.length : Int):=by omega
         obtain ⟨qt,qw,qr⟩:=q
         simp only at q0 hsn hno'
         clear hno hall hdj hqi q1 q2 hyes hp
         by_cases hxt : x = qt
         ·have hR1:=hno' (by simp [hxt])
          have hxt' : (x == qt) = true:=by simp [hxt]
          clear hno' hsn hxt
          subst hR1
          go_wp2_with fail
          go_region_held3 (fun w' => w'.cell? ⟨b,o + i * 3,none⟩ = some (.int .i64 x) /\ w'.cell? ⟨b,o + j * 3,none⟩ = some (.int .i64 qt)) (go_keep) (fail)
          go_wp2_with fail
          go_ret
          exact ⟨rfl,hbwq.drew⟩
         ·have hxt' : (x == qt) = false:=by simp [hxt]
          have hall' : Hid (((ps.drop (i + 1)).take (j + 1 - (i + 1))).all (fun q => !(x == q.t)) = true):=by show _ = _;rw [hsn,hxt'];rfl
          clear hno' hsn hxt
          go_wp2_with fail
          go_region_held3 (fun w' => w'.cell? ⟨b,o + i * 3,none⟩ = some (.int .i64 x) /\ w'.cell? ⟨b,o + j * 3,none⟩ = some (.int .i64 qt)) (go_keep) (fail)
          go_wp2_with fail
          go_roundw
          case rel => exact ⟨j + 1,by omega,by omega,by go_num,hall',hbq.drew⟩
          case measure => simp [intOf];omega
        ·have hall' : (ps.drop (i + 1)).all (fun q => !(x == q.t)) = true:=by
          have:=hall.out
          rw [List.take_of_length_le (by rw [List.length_drop];omega)] at this
          exact this
         have hy':=hyes hall'
         clear hno hyes hall hall' hp
         go_wp2_with fail
         go_roundw
         case rel => exact ⟨i + 1,by omega,by go_num,hy',hbq⟩
         case measure => simp [intOf];omega
     ·have hz' : (z == -1) = false:=by simp [hz]
      rw [hz',Bool.false_or] at hK
      clear hz
      go_wp2_with fail
      go_region_held3 (fun w' => (w'.cell? ⟨w.heap.size,0,none⟩ = some (.slice sa ns sc) /\ w'.cell? ⟨w.heap.size,1,none⟩ = some (.slice ta nt tc)) /\ w'.cell? ⟨b,o + i * 3,none⟩ = some (.int .i64 x) /\ w'.cell? ⟨b,o + i * 3 + 1,none⟩ = some (.int .i64 (-1)) /\ w'.cell? ⟨b,o + i * 3 + 2,none⟩ = some (.int .i64 z)) (go_keep) (first | (go_at_call 76;refine (h1 _).mono ?_;rintro e _ ⟨rfl,rfl⟩))
      go_wp2_with fail
      refine wp_region_held_drew (S:=(fun w' => (w'.cell? ⟨w.heap.size,0,none⟩ = some (.slice sa ns sc) /\ w'.cell? ⟨w.heap.size,1,none⟩ = some (.slice ta nt tc)) /\ w'.cell? ⟨b,o + i * 3,none⟩ = some (.int .i64 x) /\ w'.cell? ⟨b,o + i * 3 + 1,none⟩ = some (.int .i64 (-1)) /\ w'.cell? ⟨b,o + i * 3 + 2,none⟩ = some (.int .i64 z))) (by kernel_rfl) (by go_keep) (fun hH => ?_)
      refine wpAnyH_take (i:=0) (v:=?_) rfl (by kernel_rfl) (by kernel_rfl) (by kernel_rfl) (fun _ _ _ h => h) (Or.inl ⟨by rfl,?_⟩) hH ?_
      rotate_left
      ·intro w' hS';(try dsimp only at hS');go_simp <;> (try with_reducible rfl)
      simp only [Act.put,List.setIfInBounds_toArray,List.set_cons_zero,List.set_cons_succ,List.getElem_toArray,List.getElem_cons_zero,List.getElem_cons_succ]
      refine wpAnyH_take (i:=1) (v:=?_) rfl (by kernel_rfl) (by kernel_rfl) (by kernel_rfl) (fun _ _ _ h => h) (Or.inl ⟨by rfl,?_⟩) hH ?_
      rotate_left
      ·intro w' hS';(try dsimp only at hS');go_simp <;> (try with_reducible rfl)
      simp only [Act.put,List.setIfInBounds_toArray,List.set_cons_zero,List.set_cons_succ,List.getElem_toArray,List.getElem_cons_zero,List.getElem_cons_succ]
      refine wpAnyH_take (i:=2) (v:=?_) rfl (by kernel_rfl) (by kernel_rfl) (by kernel_rfl) (fun _ _ _ h => h) (Or.inl ⟨by rfl,?_⟩) hH ?_
      rotate_left
      ·intro w' hS';(try dsimp only at hS');go_simp <;> (try with_reducible rfl)
      simp only [Act.put,List.setIfInBounds_toArray,List.set_cons_zero,List.set_cons_succ,List.getElem_toArray,List.getElem_cons_zero,List.getElem_cons_succ]
      refine wpAnyH_take (i:=3) (v:=?_) rfl (by kernel_rfl) (by kernel_rfl) (by kernel_rfl) (fun _ _ _ h => h) (Or.inl ⟨by rfl,?_⟩) hH ?_
      rotate_left
      ·intro w' hS';(try dsimp only at hS');go_simp <;> (try with_reducible rfl)
      simp only [Act.put,List.setIfInBounds_toArray,List.set_cons_zero,List.set_cons_succ,List.getElem_toArray,List.getElem_cons_zero,List.getElem_cons_succ]
      refine wpAnyH_take (i:=4) (v:=?_) rfl (by kernel_rfl) (by kernel_rfl) (by kernel_rfl) (fun _ _ _ h => h) (Or.inl ⟨by rfl,?_⟩) hH ?_
      rotate_left
      ·intro w' hS';(try dsimp only at hS');go_simp <;> (try with_reducible rfl)
      simp only [Act.put,List.setIfInBounds_toArray,List.set_cons_zero,List.set_cons_succ,List.getElem_toArray,List.getElem_cons_zero,List.getElem_cons_succ]
      refine wpAnyH_take (i:=5) (v:=?_) rfl (by kernel_rfl) (by kernel_rfl) (by kernel_rfl) (fun _ _ _ h => h) (Or.inl ⟨by rfl,?_⟩) hH ?_
      rotate_left
      ·intro w' hS';(try dsimp only at hS');go_simp <;> (try with_reducible rfl)
      simp only [Act.put,List.setIfInBounds_toArray,List.set_cons_zero,List.set_cons_succ,List.getElem_toArray,List.getElem_cons_zero,List.getElem_cons_succ]
      refine wpAnyH_take (i:=6) (v:=?_) rfl (by kernel_rfl) (by kernel_rfl) (by kernel_rfl) (fun _ _ _ h => h) (Or.inl ⟨by rfl,?_⟩) hH ?_
      rotate_left
      ·intro w' hS';(try dsimp only at hS');go_simp <;> (try with_reducible rfl)
      simp only [Act.put,List.setIfInBounds_toArray,List.set_cons_zero,List.set_cons_succ,List.getElem_toArray,List.getElem_cons_zero,List.getElem_cons_succ]
      refine wpAnyH_take (i:=7) (v:=undef) rfl (by kernel_rfl) (by kernel_rfl) (by kernel_rfl) (fun _ _ _ h => h) (Or.inr ⟨by rfl,rfl⟩) hH ?_
      simp only [Act.put,List.setIfInBounds_toArray,List.set_cons_zero,List.set_cons_succ,List.getElem_toArray,List.getElem_cons_zero,List.getElem_cons_succ]
      refine wpAnyH_take (i:=8) (v:=undef) rfl (by kernel_rfl) (by kernel_rfl) (by kernel_rfl) (fun _ _ _ h => h) (Or.inr ⟨by rfl,rfl⟩) hH ?_
      simp only [Act.put,List.setIfInBounds_toArray,List.set_cons_zero,List.set_cons_succ,List.getElem_toArray,List.getElem_cons_zero,List.getElem_cons_succ]
      refine wpAnyH_take (i:=9) (v:=undef) rfl (by kernel_rfl) (by kernel_rfl) (by kernel_rfl) (fun _ _ _ h => h) (Or.inr ⟨by rfl,rfl⟩) hH ?_
      simp only [Act.put,List.setIfInBounds_toArray,List.set_cons_zero,List.set_cons_succ,List.getElem_toArray,List.getElem_cons_zero,List.getElem_cons_succ]
      refine wpAnyH_take (i:=10) (v:=undef) rfl (by kernel_rfl) (by kernel_rfl) (by kernel_rfl) (fun _ _ _ h => h) (Or.inr ⟨by rfl,rfl⟩) hH ?_
      simp only [Act.put,List.setIfInBounds_toArray,List.set_cons_zero,List.set_cons_succ,List.getElem_toArray,List.getElem_cons_zero,List.getElem_cons_succ]
      refine wpAnyH_take (i:=11) (v:=undef) rfl (by kernel_rfl) (by kernel_rfl) (by kernel_rfl) (fun _ _ _ h => h) (Or.inr ⟨by rfl,rfl⟩) hH ?_
      simp only [Act.put,List.setIfInBounds_toArray,List.set_cons_zero,List.set_cons_succ,List.getElem_toArray,List.getElem_cons_zero,List.getElem_cons_succ]
      refine wpAnyH_take (i:=12) (v:=undef) rfl (by kernel_rfl) (by kernel_rfl) (by kernel_rfl) (fun _ _ _ h => h) (Or.inr ⟨by rfl,rfl⟩) hH ?_
      simp only [Act.put,List.setIfInBounds_toArray,List.set_cons_zero,List.set_cons_succ,List.getElem_toArray,List.getElem_cons_zero,List.getElem_cons_succ]
      refine wpAnyH_take (i:=13) (v:=undef) rfl (by kernel_rfl) (by kernel_rfl) (by kernel_rfl) (fun _ _ _ h => h) (Or.inr ⟨by rfl,rfl⟩) hH ?_
      simp only [Act.put,List.setIfInBounds_toArray,List.set_cons_zero,List.set_cons_succ,List.getElem_toArray,List.getElem_cons_zero,List.getElem_cons_succ]
      refine wpAnyH_take (i:=14) (v:=undef) rfl (by kernel_rfl) (by kernel_rfl) (by kernel_rfl) (fun _ _ _ h => h) (Or.inr ⟨by rfl,rfl⟩) hH ?_
      simp only [Act.put,List.setIfInBounds_toArray,List.set_cons_zero,List.set_cons_succ,List.getElem_toArray,List.getElem_cons_zero,List.getElem_cons_succ]
      refine wpAnyH_take (i:=15) (v:=undef) rfl (by kernel_rfl) (by kernel_rfl) (by kernel_rfl) (fun _ _ _ h => h) (Or.inr ⟨by rfl,rfl⟩) hH ?_
      simp only [Act.put,List.setIfInBounds_toArray,List.set_cons_zero,List.set_cons_succ,List.getElem_toArray,List.getElem_cons_zero,List.getElem_cons_succ]
      refine wpAnyH_take (i:=16) (v:=?_) rfl (by kernel_rfl) (by kernel_rfl) (by kernel_rfl) (fun _ _ _ h => h) (Or.inl ⟨by rfl,?_⟩) hH ?_
      rotate_left
      ·intro w' hS';(try dsimp only at hS');go_simp <;> (try with_reducible rfl)
      simp only [Act.put,List.setIfInBounds_toArray,List.set_cons_zero,List.set_cons_succ,List.getElem_toArray,List.getElem_cons_zero,List.getElem_cons_succ]
      refine wpAnyH_take (i:=17) (v:=?_) rfl (by kernel_rfl) (by kernel_rfl) (by kernel_rfl) (fun _ _ _ h => h) (Or.inl ⟨by rfl,?_⟩) hH ?_
      rotate_left
      ·intro w' hS';(try dsimp only at hS');go_simp <;> (try with_reducible rfl)
      simp only [Act.put,List.setIfInBounds_toArray,List.set_cons_zero,List.set_cons_succ,List.getElem_toArray,List.getElem_cons_zero,List.getElem_cons_succ]
      refine wpAnyH_done (by kernel_rfl) ?_ _
      go_wp2_with fail
      go_region_held3 (fun w' => (w'.cell? ⟨w.heap.size,0,none⟩ = some (.slice sa ns sc) /\ w'.cell? ⟨w.heap.size,1,none⟩ = some (.slice ta nt tc)) /\ w'.cell? ⟨b,o + i * 3,none⟩ = some (.int .i64 x) /\ w'.cell? ⟨b,o + i * 3 + 1,none⟩ = some (.int .i64 (-1)) /\ w'.cell? ⟨b,o + i * 3 + 2,none⟩ = some (.int .i64 z)) (go_keep) (first | (go_at_call 76;refine (h3 _).mono ?_;rintro e _ ⟨rfl,rfl⟩))
      cases b1 with
      | false =>
       have hR1:=hno (by rw [hK];rfl)
       clear hno hyes hK HR hn hp hpi
       subst hR1
       go_wp2_with fail
       go_ret
       exact ⟨rfl,hbw.drew.drew.drew⟩
      | true =>
       cases b3 with
       | false =>
        have hR1:=hno (by rw [hK];simp)
        clear hno hyes hK HR hn hp hpi
        subst hR1
        go_wp2_with fail
        go_ret
        exact ⟨rfl,hbw.drew.drew.drew⟩
       | true =>
        have hK' : zcm ns nt ps i = (ps.drop (i + 1)).all fun q => !(x == q.t):=by rw [hK];simp
        rw [hK'] at hno hyes
        clear hK hK' HR hn
        have hbW:=hb.drew.drew.drew
        go_wp2_with fail
        go_loopw [9] (fun vj wq => ∃ j : Nat,i + 1 <= j /\ j <= ps.length /\ vj = .int .i64 j /\ Hid (((ps.drop (i + 1)).take (j - (i + 1))).all (fun q => !(x == q.t)) = true) /\ Below (w.alloc (.cells #[.slice sa ns sc,.slice ta nt tc,.slice va vl vc] 26)).heap.size (w.alloc (.cells #[.slice sa ns sc,.slice ta nt tc,.slice va vl vc] 26)) wq) (fun j _ => ps.length - (intOf j).toNat)
        case atStart => exact ⟨i + 1,Nat.le_refl _,by omega,by go_num,(by show _ = _;rw [Nat.sub_self];rfl),hbW⟩
        case round =>
         obtain ⟨j,hj1,hj2,rfl,hall,hbq⟩:=hrel
         have hbwq:=thn3 (bel1 _ _) hbq
         have g0:=zaa hbwq k0
         have hbl2:=zaf g0
         by_cases hjl : j < ps.length
         ·obtain ⟨q,hqi⟩ : ∃ q,ps[j]? = some q:=⟨ps[j],List.getElem?_eq_getElem hjl⟩
          obtain ⟨b',o',hbo,q0,q1,q2⟩:=hp j q hqi
          simp only [Option.some.injEq,Addr.mk.injEq,and_true] at hbo
          obtain ⟨rfl,rfl⟩:=hbo
          have q0:=zaa hbwq q0
          have hdj : (ps.drop (i + 1))[j - (i + 1)]? = some q:=by rw [List.getElem?_drop,show i + 1 + (j - (i + 1)) = j by omega];exact hqi
          have hsn:=zcb (fun q : PinD => !(x == q.t)) hdj
          have hno' : (!(x == q.t)) = false -> R = false:=fun h => hno (zca hdj h)
          rw [hall.out,Bool.true_and,show j - (i + 1) + 1 = j + 1 - (i + 1) by omega] at hsn
          have hy0 := znn j
          have hy1 : (j : Int) < (ps.length : Int):=by omega
          obtain ⟨qt,qw,qr⟩:=q
          simp only at q0 hsn hno'
          clear hno hall hdj hqi q1 q2 hyes hp
          by_cases hxt : x = qt
          ·have hR1:=hno' (by simp [hxt])
           have hxt' : (x == qt) = true:=by simp [hxt]
           clear hno' hsn hxt
           subst hR1
           go_wp2_with fail
           go_region_held3 (fun w' => w'.cell? ⟨b,o + i * 3,none⟩ = some (.int .i64 x) /\ w'.cell? ⟨b,o + j * 3,none⟩ = some (.int .i64 qt)) (go_keep) (fail)
           go_wp2_with fail
           go_ret
           exact ⟨rfl,hbwq.drew⟩
          ·have hxt' : (x == qt) = false:=by simp [hxt]
           have hall' : Hid (((ps.drop (i + 1)).take (j + 1 - (i + 1))).all (fun q => !(x == q.t)) = true):=by show _ = _;rw [hsn,hxt'];rfl
           clear hno' hsn hxt
           go_wp2_with fail
           go_region_held3 (fun w' => w'.cell? ⟨b,o + i * 3,none⟩ = some (.int .i64 x) /\ w'.cell? ⟨b,o + j * 3,none⟩ = some (.int .i64 qt)) (go_keep) (fail)
           go_wp2_with fail
           go_roundw
           case rel => exact ⟨j + 1,by omega,by omega,by go_num,hall',hbq.drew⟩
           case measure => simp [intOf];omega
         ·have hall' : (ps.drop (i + 1)).all (fun q => !(x == q.t)) = true:=by
           have:=hall.out
           rw [List.take_of_length_le (by rw [List.length_drop];omega)] at this
           exact this
          have hy':=hyes hall'
          clear hno hyes hall hall' hp
          go_wp2_with fail
          go_roundw
          case rel => exact ⟨i + 1,by omega,by go_num,hy',hbq⟩
          case measure => simp [intOf];omega
    ·have hy' : (y == -1) = false:=by simp [hy]
     rw [hy',Bool.false_or] at hK
     clear hy
     by_cases hz : z = -1
     ·subst hz
      clear h3
      rw [show ((-1 : Int) == -1) = true from rfl,Bool.true_or] at hK
      go_wp2_with fail
      go_region_held3 (fun w' => (w'.cell? ⟨w.heap.size,0,none⟩ = some (.slice sa ns sc) /\ w'.cell? ⟨w.heap.size,1,none⟩ = some (.slice ta nt tc)) /\ w'.cell? ⟨b,o + i * 3,none⟩ = some (.int .i64 x) /\ w'.cell? ⟨b,o + i * 3 + 1,none⟩ = some (.int .i64 y) /\ w'.cell? ⟨b,o + i * 3 + 2,none⟩ = some (.int .i64 (-1))) (go_keep) (first | (go_at_call 76;refine (h1 _).mono ?_;rintro e _ ⟨rfl,rfl⟩))
      go_wp2_with fail
      go_region_held3 (fun w' => (w'.cell? ⟨w.heap.size,0,none⟩ = some (.slice sa ns sc) /\ w'.cell? ⟨w.heap.size,1,none⟩ = some (.slice ta nt tc)) /\ w'.cell? ⟨b,o + i * 3,none⟩ = some (.int .i64 x) /\ w'.cell? ⟨b,o + i * 3 + 1,none⟩ = some (.int .i64 y) /\ w'.cell? ⟨b,o + i * 3 + 2,none⟩ = some (.int .i64 (-1))) (go_keep) (first | (go_at_call 76;refine (h2 _).mono ?_;rintro e _ ⟨rfl,rfl⟩))
      go_wp2_with fail
      refine wp_region_held_drew (S:=(fun w' => (w'.cell? ⟨w.heap.size,0,none⟩ = some (.slice sa ns sc) /\ w'.cell? ⟨w.heap.size,1,none⟩ = some (.slice ta nt tc)) /\ w'.cell? ⟨b,o + i * 3,none⟩ = some (.int .i64 x) /\ w'.cell? ⟨b,o + i * 3 + 1,none⟩ = some (.int .i64 y) /\ w'.cell? ⟨b,o + i * 3 + 2,none⟩ = some (.int .i64 (-1)))) (by kernel_rfl) (by go_keep) (fun hH => ?_)
      refine wpAnyH_take (i:=0) (v:=?_) rfl (by kernel_rfl) (by kernel_rfl) (by kernel_rfl) (fun _ _ _ h => h) (Or.inl ⟨by rfl,?_⟩) hH ?_
      rotate_left
      ·intro w' hS';(try dsimp only at hS');go_simp <;> (try with_reducible rfl)
      simp only [Act.put,List.setIfInBounds_toArray,List.set_cons_zero,List.set_cons_succ,List.getElem_toArray,List.getElem_cons_zero,List.getElem_cons_succ]
      refine wpAnyH_take (i:=1) (v:=?_) rfl (by kernel_rfl) (by kernel_rfl) (by kernel_rfl) (fun _ _ _ h => h) (Or.inl ⟨by rfl,?_⟩) hH ?_
      rotate_left
      ·intro w' hS';(try dsimp only at hS');go_simp <;> (try with_reducible rfl)
      simp only [Act.put,List.setIfInBounds_toArray,List.set_cons_zero,List.set_cons_succ,List.getElem_toArray,List.getElem_cons_zero,List.getElem_cons_succ]
      refine wpAnyH_take (i:=2) (v:=?_) rfl (by kernel_rfl) (by kernel_rfl) (by kernel_rfl) (fun _ _ _ h => h) (Or.inl ⟨by rfl,?_⟩) hH ?_
      rotate_left
      ·intro w' hS';(try dsimp only at hS');go_simp <;> (try with_reducible rfl)
      simp only [Act.put,List.setIfInBounds_toArray,List.set_cons_zero,List.set_cons_succ,List.getElem_toArray,List.getElem_cons_zero,List.getElem_cons_succ]
      refine wpAnyH_take (i:=3) (v:=?_) rfl (by kernel_rfl) (by kernel_rfl) (by kernel_rfl) (fun _ _ _ h => h) (Or.inl ⟨by rfl,?_⟩) hH ?_
      rotate_left
      ·intro w' hS';(try dsimp only at hS');go_simp <;> (try with_reducible rfl)
      simp only [Act.put,List.setIfInBounds_toArray,List.set_cons_zero,List.set_cons_succ,List.getElem_toArray,List.getElem_cons_zero,List.getElem_cons_succ]
      refine wpAnyH_take (i:=4) (v:=?_) rfl (by kernel_rfl) (by kernel_rfl) (by kernel_rfl) (fun _ _ _ h => h) (Or.inl ⟨by rfl,?_⟩) hH ?_
      rotate_left
      ·intro w' hS';(try dsimp only at hS');go_simp <;> (try with_reducible rfl)
      simp only [Act.put,List.setIfInBounds_toArray,List.set_cons_zero,List.set_cons_succ,List.getElem_toArray,List.getElem_cons_zero,List.getElem_cons_succ]
      refine wpAnyH_take (i:=5) (v:=?_) rfl (by kernel_rfl) (by kernel_rfl) (by kernel_rfl) (fun _ _ _ h => h) (Or.inl ⟨by rfl,?_⟩) hH ?_
      rotate_left
      ·intro w' hS';(try dsimp only at hS');go_simp <;> (try with_reducible rfl)
      simp only [Act.put,List.setIfInBounds_toArray,List.set_cons_zero,List.set_cons_succ,List.getElem_toArray,List.getElem_cons_zero,List.getElem_cons_succ]
      refine wpAnyH_take (i:=6) (v:=?_) rfl (by kernel_rfl) (by kernel_rfl) (by kernel_rfl) (fun _ _ _ h => h) (Or.inl ⟨by rfl,?_⟩) hH ?_
      rotate_left
      ·intro w' hS';(try dsimp only at hS');go_simp <;> (try with_reducible rfl)
      simp only [Act.put,List.setIfInBounds_toArray,List.set_cons_zero,List.set_cons_succ,List.getElem_toArray,List.getElem_cons_zero,List.getElem_cons_succ]
      refine wpAnyH_take (i:=7) (v:=undef) rfl (by kernel_rfl) (by kernel_rfl) (by kernel_rfl) (fun _ _ _ h => h) (Or.inr ⟨by rfl,rfl⟩) hH ?_
      simp only [Act.put,List.setIfInBounds_toArray,List.set_cons_zero,List.set_cons_succ,List.getElem_toArray,List.getElem_cons_zero,List.getElem_cons_succ]
      refine wpAnyH_take (i:=8) (v:=undef) rfl (by kernel_rfl) (by kernel_rfl) (by kernel_rfl) (fun _ _ _ h => h) (Or.inr ⟨by rfl,rfl⟩) hH ?_
      simp only [Act.put,List.setIfInBounds_toArray,List.set_cons_zero,List.set_cons_succ,List.getElem_toArray,List.getElem_cons_zero,List.getElem_cons_succ]
      refine wpAnyH_take (i:=9) (v:=undef) rfl (by kernel_rfl) (by kernel_rfl) (by kernel_rfl) (fun _ _ _ h => h) (Or.inr ⟨by rfl,rfl⟩) hH ?_
      simp only [Act.put,List.setIfInBounds_toArray,List.set_cons_zero,List.set_cons_succ,List.getElem_toArray,List.getElem_cons_zero,List.getElem_cons_succ]
      refine wpAnyH_take (i:=10) (v:=undef) rfl (by kernel_rfl) (by kernel_rfl) (by kernel_rfl) (fun _ _ _ h => h) (Or.inr ⟨by rfl,rfl⟩) hH ?_
      simp only [Act.put,List.setIfInBounds_toArray,List.set_cons_zero,List.set_cons_succ,List.getElem_toArray,List.getElem_cons_zero,List.getElem_cons_succ]
      refine wpAnyH_take (i:=11) (v:=undef) rfl (by kernel_rfl) (by kernel_rfl) (by kernel_rfl) (fun _ _ _ h => h) (Or.inr ⟨by rfl,rfl⟩) hH ?_
      simp only [Act.put,List.setIfInBounds_toArray,List.set_cons_zero,List.set_cons_succ,List.getElem_toArray,List.getElem_cons_zero,List.getElem_cons_succ]
      refine wpAnyH_take (i:=12) (v:=undef) rfl (by kernel_rfl) (by kernel_rfl) (by kernel_rfl) (fun _ _ _ h => h) (Or.inr ⟨by rfl,rfl⟩) hH ?_
      simp only [Act.put,List.setIfInBounds_toArray,List.set_cons_zero,List.set_cons_succ,List.getElem_toArray,List.getElem_cons_zero,List.getElem_cons_succ]
      refine wpAnyH_take (i:=13) (v:=undef) rfl (by kernel_rfl) (by kernel_rfl) (by kernel_rfl) (fun _ _ _ h => h) (Or.inr ⟨by rfl,rfl⟩) hH ?_
      simp only [Act.put,List.setIfInBounds_toArray,List.set_cons_zero,List.set_cons_succ,List.getElem_toArray,List.getElem_cons_zero,List.getElem_cons_succ]
      refine wpAnyH_take (i:=14) (v:=undef) rfl (by kernel_rfl) (by kernel_rfl) (by kernel_rfl) (fun _ _ _ h => h) (Or.inr ⟨by rfl,rfl⟩) hH ?_
      simp only [Act.put,List.setIfInBounds_toArray,List.set_cons_zero,List.set_cons_succ,List.getElem_toArray,List.getElem_cons_zero,List.getElem_cons_succ]
      refine wpAnyH_take (i:=15) (v:=undef) rfl (by kernel_rfl) (by kernel_rfl) (by kernel_rfl) (fun _ _ _ h => h) (Or.inr ⟨by rfl,rfl⟩) hH ?_
      simp only [Act.put,List.setIfInBounds_toArray,List.set_cons_zero,List.set_cons_succ,List.getElem_toArray,List.getElem_cons_zero,List.getElem_cons_succ]
      refine wpAnyH_take (i:=16) (v:=?_) rfl (by kernel_rfl) (by kernel_rfl) (by kernel_rfl) (fun _ _ _ h => h) (Or.inl ⟨by rfl,?_⟩) hH ?_
      rotate_left
      ·intro w' hS';(try dsimp only at hS');go_simp <;> (try with_reducible rfl)
      simp only [Act.put,List.setIfInBounds_toArray,List.set_cons_zero,List.set_cons_succ,List.getElem_toArray,List.getElem_cons_zero,List.getElem_cons_succ]
      refine wpAnyH_take (i:=17) (v:=?_) rfl (by kernel_rfl) (by kernel_rfl) (by kernel_rfl) (fun _ _ _ h => h) (Or.inl ⟨by rfl,?_⟩) hH ?_
      rotate_left
      ·intro w' hS';(try dsimp only at hS');go_simp <;> (try with_reducible rfl)
      simp only [Act.put,List.setIfInBounds_toArray,List.set_cons_zero,List.set_cons_succ,List.getElem_toArray,List.getElem_cons_zero,List.getElem_cons_succ]
      refine wpAnyH_done (by kernel_rfl) ?_ _
      cases b1 with
      | false =>
       have hR1:=hno (by rw [hK];rfl)
       clear hno hyes hK HR hn hp hpi
       subst hR1
       go_wp2_with fail
       go_ret
       exact ⟨rfl,hbw.drew.drew.drew⟩
      | true =>
       cases b2 with
       | false =>
        have hR1:=hno (by rw [hK];simp)
        clear hno hyes hK HR hn hp hpi
        subst hR1
        go_wp2_with fail
        go_ret
        exact ⟨rfl,hbw.drew.drew.drew⟩
       | true =>
        have hK' : zcm ns nt ps i = (ps.drop (i + 1)).all fun q => !(x == q.t):=by rw [hK];simp
        rw [hK'] at hno hyes
        clear hK hK' HR hn
        have hbW:=hb.drew.drew.drew
        go_wp2_with fail
        go_loopw [9] (fun vj wq => ∃ j : Nat,i + 1 <= j /\ j <= ps.length /\ vj = .int .i64 j /\ Hid (((ps.drop (i + 1)).take (j - (i + 1))).all (fun q => !(x == q.t)) = true) /\ Below (w.alloc (.cells #[.slice sa ns sc,.slice ta nt tc,.slice va vl vc] 26)).heap.size (w.alloc (.cells #[.slice sa ns sc,.slice ta nt tc,.slice va vl vc] 26)) wq) (fun j _ => ps.length - (intOf j).toNat)
        case atStart => exact ⟨i + 1,Nat.le_refl _,by omega,by go_num,(by show _ = _;rw [Nat.sub_self];rfl),hbW⟩
        case round =>
         obtain ⟨j,hj1,hj2,rfl,hall,hbq⟩:=hrel
         have hbwq:=thn3 (bel1 _ _) hbq
         have g0:=zaa hbwq k0
         have hbl2:=zaf g0
         by_cases hjl : j < ps.length
         ·obtain ⟨q,hqi⟩ : ∃ q,ps[j]? = some q:=⟨ps[j],List.getElem?_eq_getElem hjl⟩
          obtain ⟨b',o',hbo,q0,q1,q2⟩:=hp j q hqi
          simp only [Option.some.injEq,Addr.mk.injEq,and_true] at hbo
          obtain ⟨rfl,rfl⟩:=hbo
          have q0:=zaa hbwq q0
          have hdj : (ps.drop (i + 1))[j - (i + 1)]? = some q:=by rw [List.getElem?_drop,show i + 1 + (j - (i + 1)) = j by omega];exact hqi
          have hsn:=zcb (fun q : PinD => !(x == q.t)) hdj
          have hno' : (!(x == q.t)) = false -> R = false:=fun h => hno (zca hdj h)
          rw [hall.out,Bool.true_and,show j - (i + 1) + 1 = j + 1 - (i + 1) by omega] at hsn
          have hy0 := znn j
          have hy1 : (j : Int) < (ps.length : Int):=by omega
          obtain ⟨qt,qw,qr⟩:=q
          simp only at q0 hsn hno'
          clear hno hall hdj hqi q1 q2 hyes hp
          by_cases hxt : x = qt
          ·have hR1:=hno' (by simp [hxt])
           have hxt' : (x == qt) = true:=by simp [hxt]
           clear hno' hsn hxt
           subst hR1
           go_wp2_with fail
           go_region_held3 (fun w' => w'.cell? ⟨b,o + i * 3,none⟩ = some (.int .i64 x) /\ w'.cell? ⟨b,o + j * 3,none⟩ = some (.int .i64 qt)) (go_keep) (fail)
           go_wp2_with fail
           go_ret
           exact ⟨rfl,hbwq.drew⟩
          ·have hxt' : (x == qt) = false:=by simp [hxt]
           have hall' : Hid (((ps.drop (i + 1)).take (j + 1 - (i + 1))).all (fun q => !(x == q.t)) = true):=by show _ = _;rw [hsn,hxt'];rfl
           clear hno' hsn hxt
           go_wp2_with fail
           go_region_held3 (fun w' => w'.cell? ⟨b,o + i * 3,none⟩ = some (.int .i64 x) /\ w'.cell? ⟨b,o + j * 3,none⟩ = some (.int .i64 qt)) (go_keep) (fail)
           go_wp2_with fail
           go_roundw
           case rel => exact ⟨j + 1,by omega,by omega,by go_num,hall',hbq.drew⟩
           case measure => simp [intOf];omega
         ·have hall' : (ps.drop (i + 1)).all (fun q => !(x == q.t)) = true:=by
           have:=hall.out
           rw [List.take_of_length_le (by rw [List.length_drop];omega)] at this
           exact this
          have hy':=hyes hall'
          clear hno hyes hall hall' hp
          go_wp2_with fail
          go_roundw
          case rel => exact ⟨i + 1,by omega,by go_num,hy',hbq⟩
          case measure => simp [intOf];omega
     ·have hz' : (z == -1) = false:=by simp [hz]
      rw [hz',Bool.false_or] at hK
      clear hz
      go_wp2_with fail
      go_region_held3 (fun w' => (w'.cell? ⟨w.heap.size,0,none⟩ = some (.slice sa ns sc) /\ w'.cell? ⟨w.heap.size,1,none⟩ = some (.slice ta nt tc)) /\ w'.cell? ⟨b,o + i * 3,none⟩ = some (.int .i64 x) /\ w'.cell? ⟨b,o + i * 3 + 1,none⟩ = some (.int .i64 y) /\ w'.cell? ⟨b,o + i * 3 + 2,none⟩ = some (.int .i64 z)) (go_keep) (first | (go_at_call 76;refine (h1 _).mono ?_;rintro e _ ⟨rfl,rfl⟩))
      go_wp2_with fail
      go_region_held3 (fun w' => (w'.cell? ⟨w.heap.size,0,none⟩ = some (.slice sa ns sc) /\ w'.cell? ⟨w.heap.size,1,none⟩ = some (.slice ta nt tc)) /\ w'.cell? ⟨b,o + i * 3,none⟩ = some (.int .i64 x) /\ w'.cell? ⟨b,o + i * 3 + 1,none⟩ = some (.int .i64 y) /\ w'.cell? ⟨b,o + i * 3 + 2,none⟩ = some (.int .i64 z)) (go_keep) (first | (go_at_call 76;refine (h2 _).mono ?_;rintro e _ ⟨rfl,rfl⟩))
      go_wp2_with fail
      go_region_held3 (fun w' => (w'.cell? ⟨w.heap.size,0,none⟩ = some (.slice sa ns sc) /\ w'.cell? ⟨w.heap.size,1,none⟩ = some (.slice ta nt tc)) /\ w'.cell? ⟨b,o + i * 3,none⟩ = some (.int .i64 x) /\ w'.cell? ⟨b,o + i * 3 + 1,none⟩ = some (.int .i64 y) /\ w'.cell? ⟨b,o + i * 3 + 2,none⟩ = some (.int .i64 z)) (go_keep) (first | (go_at_call 76;refine (h3 _).mono ?_;rintro e _ ⟨rfl,rfl⟩))
      cases b1 with
      | false =>
       have hR1:=hno (by rw [hK];rfl)
       clear hno hyes hK HR hn hp hpi
       subst hR1
       go_wp2_with fail
       go_ret
       exact ⟨rfl,hbw.drew.drew.drew⟩
      | true =>
       cases b2 with
       | false =>
        have hR1:=hno (by rw [hK];simp)
        clear hno hyes hK HR hn hp hpi
        subst hR1
        go_wp2_with fail
        go_ret
        exact ⟨rfl,hbw.drew.drew.drew⟩
       | true =>
        cases b3 with
        | false =>
         have hR1:=hno (by rw [hK];simp)
         clear hno hyes hK HR hn hp hpi
         subst hR1
         go_wp2_with fail
         go_ret
         exact ⟨rfl,hbw.drew.drew.drew⟩
        | true =>
         have hK' : zcm ns nt ps i = (ps.drop (i + 1)).all fun q => !(x == q.t):=by rw [hK];simp
         rw [hK'] at hno hyes
         clear hK hK' HR hn
         have hbW:=hb.drew.drew.drew
         go_wp2_with fail
         go_loopw [9] (fun vj wq => ∃ j : Nat,i + 1 <= j /\ j <= ps.length /\ vj = .int .i64 j /\ Hid (((ps.drop (i + 1)).take (j - (i + 1))).all (fun q => !(x == q.t)) = true) /\ Below (w.alloc (.cells #[.slice sa ns sc,.slice ta nt tc,.slice va vl vc] 26)).heap.size (w.alloc (.cells #[.slice sa ns sc,.slice ta nt tc,.slice va vl vc] 26)) wq) (fun j _ => ps.length - (intOf j).toNat)
         case atStart => exact ⟨i + 1,Nat.le_refl _,by omega,by go_num,(by show _ = _;rw [Nat.sub_self];rfl),hbW⟩
         case round =>
          obtain ⟨j,hj1,hj2,rfl,hall,hbq⟩:=hrel
          have hbwq:=thn3 (bel1 _ _) hbq
          have g0:=zaa hbwq k0
          have hbl2:=zaf g0
          by_cases hjl : j < ps.length
          ·obtain ⟨q,hqi⟩ : ∃ q,ps[j]? = some q:=⟨ps[j],List.getElem?_eq_getElem hjl⟩
           obtain ⟨b',o',hbo,q0,q1,q2⟩:=hp j q hqi
           simp only [Option.some.injEq,Addr.mk.injEq,and_true] at hbo
           obtain ⟨rfl,rfl⟩:=hbo
           have q0:=zaa hbwq q0
           have hdj : (ps.drop (i + 1))[j - (i + 1)]? = some q:=by rw [List.getElem?_drop,show i + 1 + (j - (i + 1)) = j by omega];exact hqi
           have hsn:=zcb (fun q : PinD => !(x == q.t)) hdj
           have hno' : (!(x == q.t)) = false -> R = false:=fun h => hno (zca hdj h)
           rw [hall.out,Bool.true_and,show j - (i + 1) + 1 = j + 1 - (i + 1) by omega] at hsn
           have hy0 := znn j
           have hy1 : (j : Int) < (ps.length : Int):=by omega
           obtain ⟨qt,qw,qr⟩:=q
           simp only at q0 hsn hno'
           clear hno hall hdj hqi q1 q2 hyes hp
           by_cases hxt : x = qt
           ·have hR1:=hno' (by simp [hxt])
            have hxt' : (x == qt) = true:=by simp [hxt]
            clear hno' hsn hxt
            subst hR1
            go_wp2_with fail
            go_region_held3 (fun w' => w'.cell? ⟨b,o + i * 3,none⟩ = some (.int .i64 x) /\ w'.cell? ⟨b,o + j * 3,none⟩ = some (.int .i64 qt)) (go_keep) (fail)
            go_wp2_with fail
            go_ret
            exact ⟨rfl,hbwq.drew⟩
           ·have hxt' : (x == qt) = false:=by simp [hxt]
            have hall' : Hid (((ps.drop (i + 1)).take (j + 1 - (i + 1))).all (fun q => !(x == q.t)) = true):=by show _ = _;rw [hsn,hxt'];rfl
            clear hno' hsn hxt
            go_wp2_with fail
            go_region_held3 (fun w' => w'.cell? ⟨b,o + i * 3,none⟩ = some (.int .i64 x) /\ w'.cell? ⟨b,o + j * 3,none⟩ = some (.int .i64 qt)) (go_keep) (fail)
            go_wp2_with fail
            go_roundw
            case rel => exact ⟨j + 1,by omega,by omega,by go_num,hall',hbq.drew⟩
            case measure => simp [intOf];omega
          ·have hall' : (ps.drop (i + 1)).all (fun q => !(x == q.t)) = true:=by
            have:=hall.out
            rw [List.take_of_length_le (by rw [List.length_drop];omega)] at this
            exact this
           have hy':=hyes hall'
           clear hno hyes hall hall' hp
           go_wp2_with fail
           go_roundw
           case rel => exact ⟨i + 1,by omega,by go_num,hy',hbq⟩
           case measure => simp [intOf];omega
   ·have hR1 : R = true:=by rw [HR.out,<- hn.out,show i = ps.length by omega]
    clear HR hn
    subst hR1
    go_wp2_with fail
    go_ret
    exact ⟨rfl,hbw⟩
 ·have hR1 : R = false:=by rw [hR];unfold zcn;rw [decide_eq_false h4];rfl
  clear hR
  subst hR1
  go_enter Tryz.func55,Tryz.ntmps55
  go_wp2_with fail
  go_ret
  exact ⟨rfl,bel1 _ _⟩
end
end Go.Proofs.YtkkekopomiehlaaGreat
