import Derived.Test.YtkkekopomiehlaaGreatCRef3
set_option linter.unusedVariables false
set_option linter.unusedSimpArgs false
set_option maxHeartbeats 40000000
namespace Go.Proofs.YtkkekopomiehlaaGreat
section
set_option maxRecDepth 4000
open Go.RowKit
def LRet (n : Nat) (r : Option (ByteArray × Nat)) (e : Ending) : Prop :=
 match r with
 | some (d,k) => e = .returned (.tuple #[.string d,.int .i64 k])
 | none => ∃ d : ByteArray,d.size <= n /\ e = .returned (.tuple #[.string d,.int .i64 (-1)])
def LayOK (n : Nat) (s t : ByteArray) : Prop:=∀ (i j : Nat) (w : World) (ty : Ty) (k : Nat),zac true s n i = some (ty,k) -> s.size <= i + n -> j <= t.size ->
 Calls Tryz.prog 115 #[.string s,.int .i64 i,.string t,.int .i64 j] w fun e w' => LRet n (enc true t n ty j) e /\ Below w.heap.size w w'
theorem LayOK.no {n : Nat} {s t : ByteArray} (IH : LayOK n s t) {i j : Nat} (w : World) {ty : Ty} {k : Nat} (hp : zac true s n i = some (ty,k)) (hi : s.size <= i + n) (hj : j <= t.size) (hx : enc true t n ty j = none) :
  Calls Tryz.prog 115 #[.string s,.int .i64 i,.string t,.int .i64 j] w fun e w' => ∃ d : ByteArray,d.size <= n /\ e = .returned (.tuple #[.string d,.int .i64 (-1)]) /\ Below w.heap.size w w':=by
 refine (IH i j w ty k hp hi hj).mono ?_
 rintro e w' ⟨h1,h2⟩;rw [hx] at h1;obtain ⟨d,h1,h3⟩:=h1;exact ⟨d,h1,h3,h2⟩
theorem LayOK.yes {n : Nat} {s t : ByteArray} (IH : LayOK n s t) {i j : Nat} (w : World) {ty : Ty} {k : Nat} (hp : zac true s n i = some (ty,k)) (hi : s.size <= i + n) (hj : j <= t.size) {d : ByteArray} {m : Nat} (hx : enc true t n ty j = some (d,m)) :
  Calls Tryz.prog 115 #[.string s,.int .i64 i,.string t,.int .i64 j] w fun e w' => e = .returned (.tuple #[.string d,.int .i64 m]) /\ Below w.heap.size w w':=by
 refine (IH i j w ty k hp hi hj).mono ?_
 rintro e w' ⟨h1,h2⟩;rw [hx] at h1;exact ⟨h1,h2⟩
theorem zoj {n : Nat} {s t : ByteArray} (IH : LayOK n s t) (ht : t.size <= 4096) (hn : n <= 100) (i j : Nat) (w : World) {ty : Ty} {k0 : Nat} (hp : zac true s n i = some (ty,k0)) (hi : s.size <= i + n) (hj : j < t.size) :
  Calls Tryz.prog 129 #[.string s,.int .i64 i,.string t,.int .i64 j] w fun e w' => e = .returned (zbx (zbk (enc true t n ty) t j)) /\ Below w.heap.size w w':=by
 have _hs : t.size <= 9000000:=by omega
 by_cases hm : bAt t j = 91
 ·have hm' : atB t j 91 = true:=zbe rfl hm
  by_cases h2 : bAt t (j + 1) = 93
  ·have h2' : atB t ((j : Int) + 1) 93 = true:=zbe rfl h2
   have hr' : Hid (zbk (enc true t n ty) t j = some (oneB 0,j + 2)):=by show _ = _;unfold zbk;rw [if_pos hm,if_pos h2]
   clear hm h2
   go_enter Tryz.func129,Tryz.ntmps129
   go_wp2_with (first | (go_at_call 93;refine (zah _ _ _ _ (by omega) _hs).mono ?_;rintro e w' ⟨rfl,rfl⟩) | (go_at_call 95;refine (zcv 0 _ (by omega)).mono ?_;rintro e w1 ⟨rfl,hb1⟩))
   go_ret2
   rw [hr'.out]
   exact ⟨rfl,hb1⟩
  ·have h2' : atB t ((j : Int) + 1) 93 = false:=zbb rfl h2
   obtain ⟨R,hR⟩ : ∃ R,R = za7 (enc true t n ty) t 16 1 j ByteArray.empty:=⟨_,rfl⟩
   have hr' : zbk (enc true t n ty) t j = R:=by unfold zbk;rw [if_pos hm,if_neg h2,hR]
   rw [hr']
   have HR : Hid (R = za7 (enc true t n ty) t 16 1 j ByteArray.empty):=hR
   clear hm h2 hr' hR
   go_enter Tryz.func129,Tryz.ntmps129
   go_wp2_with (go_at_call 93;refine (zah _ _ _ _ (by omega) _hs).mono ?_;rintro e w ⟨rfl,rfl⟩)
   go_loopw [10,11,12] (fun vc vd vb wr => ∃ (c b : Nat) (d : ByteArray),c <= 16 /\ j <= b /\ b <= t.size /\ vc = .int .i64 c /\ vb = .int .i64 b /\ vd = .string d /\ Hid (d.size <= (9 * n + 9) * (b - j)) /\
     Hid ((b = j /\ R = za7 (enc true t n ty) t (16 - c) (c + 1) b d) \/ (b ≠ j /\ R = if bAt t b = 93 then some (oneB c ++ d,b + 1) else if bAt t b = 44 then za7 (enc true t n ty) t (16 - c) (c + 1) b d else none)) /\ Below w.heap.size w wr) (fun _ _ b _ => t.size - (intOf b).toNat)
   case atStart => exact ⟨0,j,ByteArray.empty,by omega,Nat.le_refl _,by omega,rfl,rfl,rfl,Nat.zero_le _,.inl ⟨rfl,HR⟩,Below.refl _ _⟩
   case round =>
    obtain ⟨c,b,d,hc,hjb,hbt,rfl,rfl,rfl,hd,hR,hb⟩:=hrel
    by_cases hcont : b = j \/ bAt t b = 44
    ·have hRc : Hid (R = za7 (enc true t n ty) t (16 - c) (c + 1) b d):=by
      show _ = _
      rcases hR.out with ⟨_,h⟩ | ⟨h0,h⟩
      ·exact h
      ·rcases hcont with h1 | h1
       ·exact absurd h1 h0
       ·rw [h,if_neg (by omega),if_pos h1]
     have hbt' : b < t.size:=by
      rcases hcont with h1 | h1
      ·omega
      ·exact zar (by omega)
     have hds:=zcr hd.out hn (by omega)
     clear hR
     by_cases hbj : b = j
     ·have hbj' : ((b : Int) == (j : Int)) = true:=by simp [hbj]
      have HBJ : Hid (b = j):=hbj
      clear hbj hcont
      cases hx : enc true t n ty (b + 1) with
      | none =>
       have hr' : Hid (R = none):=by
        show _ = _;rw [hRc.out]
        rcases hm16 : 16 - c with _ | m
        ·rfl
        ·rw [za7,hx]
       have hcall:=fun w => IH.no w hp hi (show b + 1 <= t.size by omega) hx
       clear hx
       go_wp2_with (first | (go_at_call 115;refine (hcall _).mono ?_;rintro e w1 ⟨d',hd',rfl,hb1⟩) | (go_at_call 93;refine (zah _ _ _ _ (by omega) _hs).mono ?_;rintro e w' ⟨rfl,rfl⟩))
       go_ret2
       rw [hr'.out]
       exact ⟨rfl,hb.trans (hb1.mono hb.size)⟩
      | some p =>
       obtain ⟨x,k⟩:=p
       obtain ⟨hb1',hb2',hb3'⟩:=zbo hx
       have hsum : (d ++ x).size <= (9 * n + 9) * (k - j):=by
        rw [ByteArray.size_append]
        have e1:=zcj (C:=9 * n + 9) (show j <= b + 1 by omega) (show b + 1 <= k by omega)
        have e2:=zdm (C:=9 * n + 9) (show b - j <= b + 1 - j by omega)
        have:=hd.out
        omega
       have hs1:=zcr hb3' hn (by omega)
       have HS : Hid ((d ++ x).size <= (9 * n + 9) * (k - j)):=hsum
       have hcall:=fun w => IH.yes w hp hi (show b + 1 <= t.size by omega) hx
       clear hb3' hsum
       by_cases h16 : c = 16
       ·have h16' : (16 : Int) < (c : Int) + 1:=by omega
        have hr' : Hid (R = none):=by show _ = _;rw [hRc.out,h16];rfl
        clear hx h16
        go_wp2_with (first | (go_at_call 115;refine (hcall _).mono ?_;rintro e w1 ⟨rfl,hb1⟩) | (go_at_call 93;refine (zah _ _ _ _ (by omega) _hs).mono ?_;rintro e w' ⟨rfl,rfl⟩))
        go_ret2
        rw [hr'.out]
        exact ⟨rfl,hb.trans (hb1.mono hb.size)⟩
       ·have h16' : ¬ (16 : Int) < (c : Int) + 1:=by omega
        have hr' : Hid (R = if bAt t k = 93 then some (oneB (c + 1) ++ (d ++ x),k + 1) else if bAt t k = 44 then za7 (enc true t n ty) t (16 - (c + 1)) (c + 1 + 1) k (d ++ x) else none):=by
         show _ = _;rw [hRc.out,show 16 - c = (16 - (c + 1)) + 1 by omega,za7,hx]
        clear hx
        go_wp2_with (first | (go_at_call 115;refine (hcall _).mono ?_;rintro e w1 ⟨rfl,hb1⟩) | (go_at_call 93;refine (zah _ _ _ _ (by omega) _hs).mono ?_;rintro e w' ⟨rfl,rfl⟩))
        go_roundw
        case rel => exact ⟨c + 1,k,d ++ x,by omega,by omega,by omega,by go_num,rfl,rfl,HS,.inr ⟨by omega,hr'.out⟩,hb.trans (hb1.mono hb.size)⟩
        case measure => simp [intOf];omega
     ·have hbj' : ((b : Int) == (j : Int)) = false:=by simp;omega
      have h44' : atB t b 44 = true:=zbe rfl (by rcases hcont with h | h;exact absurd h hbj;exact h)
      clear hcont
      cases hx : enc true t n ty (b + 1) with
      | none =>
       have hr' : Hid (R = none):=by
        show _ = _;rw [hRc.out]
        rcases hm16 : 16 - c with _ | m
        ·rfl
        ·rw [za7,hx]
       have hcall:=fun w => IH.no w hp hi (show b + 1 <= t.size by omega) hx
       clear hx
       go_wp2_with (first | (go_at_call 115;refine (hcall _).mono ?_;rintro e w1 ⟨d',hd',rfl,hb1⟩) | (go_at_call 93;refine (zah _ _ _ _ (by omega) _hs).mono ?_;rintro e w' ⟨rfl,rfl⟩))
       go_ret2
       rw [hr'.out]
       exact ⟨rfl,hb.trans (hb1.mono hb.size)⟩
      | some p =>
       obtain ⟨x,k⟩:=p
       obtain ⟨hb1',hb2',hb3'⟩:=zbo hx
       have hsum : (d ++ x).size <= (9 * n + 9) * (k - j):=by
        rw [ByteArray.size_append]
        have e1:=zcj (C:=9 * n + 9) (show j <= b + 1 by omega) (show b + 1 <= k by omega)
        have e2:=zdm (C:=9 * n + 9) (show b - j <= b + 1 - j by omega)
        have:=hd.out
        omega
       have hs1:=zcr hb3' hn (by omega)
       have HS : Hid ((d ++ x).size <= (9 * n + 9) * (k - j)):=hsum
       have hcall:=fun w => IH.yes w hp hi (show b + 1 <= t.size by omega) hx
       clear hb3' hsum
       by_cases h16 : c = 16
       ·have h16' : (16 : Int) < (c : Int) + 1:=by omega
        have hr' : Hid (R = none):=by show _ = _;rw [hRc.out,h16];rfl
        clear hx h16
        go_wp2_with (first | (go_at_call 115;refine (hcall _).mono ?_;rintro e w1 ⟨rfl,hb1⟩) | (go_at_call 93;refine (zah _ _ _ _ (by omega) _hs).mono ?_;rintro e w' ⟨rfl,rfl⟩))
        go_ret2
        rw [hr'.out]
        exact ⟨rfl,hb.trans (hb1.mono hb.size)⟩
       ·have h16' : ¬ (16 : Int) < (c : Int) + 1:=by omega
        have hr' : Hid (R = if bAt t k = 93 then some (oneB (c + 1) ++ (d ++ x),k + 1) else if bAt t k = 44 then za7 (enc true t n ty) t (16 - (c + 1)) (c + 1 + 1) k (d ++ x) else none):=by
         show _ = _;rw [hRc.out,show 16 - c = (16 - (c + 1)) + 1 by omega,za7,hx]
        clear hx
        go_wp2_with (first | (go_at_call 115;refine (hcall _).mono ?_;rintro e w1 ⟨rfl,hb1⟩) | (go_at_call 93;refine (zah _ _ _ _ (by omega) _hs).mono ?_;rintro e w' ⟨rfl,rfl⟩))
        go_roundw
        case rel => exact ⟨c + 1,k,d ++ x,by omega,by omega,by omega,by go_num,rfl,rfl,HS,.inr ⟨by omega,hr'.out⟩,hb.trans (hb1.mono hb.size)⟩
        case measure => simp [intOf];omega
    ·have hbj : ¬ b = j:=fun h => hcont (.inl h)
     have h44 : ¬ bAt t b = 44:=fun h => hcont (.inr h)
     have hbj' : ((b : Int) == (j : Int)) = false:=by simp;omega
     have h44' : atB t b 44 = false:=zbb rfl h44
     have hRc : Hid (R = if bAt t b = 93 then some (oneB c ++ d,b + 1) else none):=by
      show _ = _
      rcases hR.out with ⟨h0,_⟩ | ⟨_,h⟩
      ·exact absurd h0 hbj
      ·rw [h,if_neg h44]
     have hds:=zcr hd.out hn (by omega)
     clear hR hcont
     by_cases h93 : bAt t b = 93
     ·have h93' : atB t b 93 = true:=zbe rfl h93
      have hr' : Hid (R = some (oneB c ++ d,b + 1)):=by show _ = _;rw [hRc.out,if_pos h93]
      have hone : (oneB c).size = 1:=rfl
      clear h93 h44
      go_wp2_with (first | (go_at_call 93;refine (zah _ _ _ _ (by omega) _hs).mono ?_;rintro e w' ⟨rfl,rfl⟩) | (go_at_call 95;refine (zcv c _ (by omega)).mono ?_;rintro e w1 ⟨rfl,hb1⟩))
      go_ret2
      rw [hr'.out]
      exact ⟨rfl,hb.trans (hb1.mono hb.size)⟩
     ·have h93' : atB t b 93 = false:=zbb rfl h93
      have hr' : Hid (R = none):=by show _ = _;rw [hRc.out,if_neg h93]
      clear h93 h44
      go_wp2_with (first | (go_at_call 93;refine (zah _ _ _ _ (by omega) _hs).mono ?_;rintro e w' ⟨rfl,rfl⟩))
      go_ret2
      rw [hr'.out]
      exact ⟨rfl,hb⟩
 ·have hm' : atB t j 91 = false:=zbb rfl hm
  have hr' : Hid (zbk (enc true t n ty) t j = none):=by show _ = _;unfold zbk;rw [if_neg hm]
  clear hm
  go_enter Tryz.func129,Tryz.ntmps129
  go_wp2_with (go_at_call 93;refine (zah _ _ _ _ (by omega) _hs).mono ?_;rintro e w' ⟨rfl,rfl⟩)
  go_ret2
  rw [hr'.out]
  exact ⟨rfl,Below.refl _ _⟩
end
end Go.Proofs.YtkkekopomiehlaaGreat
