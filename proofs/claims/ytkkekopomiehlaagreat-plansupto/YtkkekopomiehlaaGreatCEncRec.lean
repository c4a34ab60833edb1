import Derived.Test.YtkkekopomiehlaaGreatCEncs
import Derived.Deep.QuietTactic
import Derived.BigQuiet
set_option linter.unusedVariables false
set_option linter.unusedSimpArgs false
set_option maxHeartbeats 40000000
namespace Go.Proofs.YtkkekopomiehlaaGreat
section
open Go.RowKit
def RepF (n : Nat) (w : World) (af : Option Addr) (fs : List (Nat × Ty × ByteArray)) : Prop :=
 (fs = [] /\ af = none) \/
    ∃ g,af = some ⟨g,0,none⟩ /\
     ∀ i f,fs[i]? = some f -> ∃ p1 p2 p3 q1 q2 q3,Rep n w p1 p2 p3 q1 q2 q3 f.2.1 /\ w.cell? ⟨g,i * 7,none⟩ = some (.int .i64 f.1) /\
      w.cell? ⟨g,i * 7 + 1,none⟩ = some (.int .i64 f.2.1.kind) /\ w.cell? ⟨g,i * 7 + 2,none⟩ = some (.string f.2.1.letters) /\ w.cell? ⟨g,i * 7 + 3,none⟩ = some (.bool f.2.1.op) /\ w.cell? ⟨g,i * 7 + 4,none⟩ = some (.slice p1 p2 p3) /\ w.cell? ⟨g,i * 7 + 5,none⟩ = some (.slice q1 q2 q3) /\
      w.cell? ⟨g,i * 7 + 6,none⟩ = some (.string f.2.2)
theorem Rep.flds {n : Nat} {w : World} {ai af : Option Addr} {li ci lf cf : Nat} {ty : Ty} (h : Rep (n + 1) w ai li ci af lf cf ty) : lf = ty.fields.length /\ ty.fields.length <= 9000000 /\ RepF n w af ty.fields:=by
 obtain ⟨_,h1,h2,_,_,h3⟩:=h
 refine ⟨h2,h1,?_⟩
 rcases h3 with h3 | h3
 ·exact .inl ⟨h3.1,h3.2.1⟩
 ·exact .inr h3
theorem znt {n : Nat} {t : ByteArray} (IH : EncAtOK n t) (ht : t.size <= 4096) (hn : n <= 100) (fs : List (Nat × Ty × ByteArray)) (j : Nat) (w : World) (af : Option Addr) (lf cf : Nat) (hj : j <= t.size) (hlf : lf = fs.length) (hfl : fs.length <= 9000000) (hr : RepF n w af fs) :
  Calls Tryz.prog 142 #[.slice af lf cf,.string t,.int .i64 j] w fun e w' => e = .returned (zeu j (zax (enc false t n) t fs 123 j ByteArray.empty)) /\ Below w.heap.size w w':=by
 have _hs : t.size <= 9000000:=by omega
 subst hlf
 obtain ⟨R,hR⟩ : ∃ R,R = zax (enc false t n) t fs 123 j ByteArray.empty:=⟨_,rfl⟩
 rw [<- hR]
 have HR : Hid (R = zax (enc false t n) t fs 123 j ByteArray.empty):=hR
 clear hR
 go_enter Tryz.func142,Tryz.ntmps142
 go_wp2_with fail
 go_loopw [9,10,11,20] (fun vd vb vm vi wr => ∃ (i b : Nat) (mk : Int) (d : ByteArray),i <= fs.length /\ j <= b /\ b <= t.size /\ vi = .int .i64 i /\ vb = .int .i64 b /\ vm = .int .i64 mk /\ vd = .string d /\ Hid (0 <= mk) /\ Hid (R = zax (enc false t n) t (fs.drop i) mk b d) /\ Hid (d.size <= (9 * n + 9) * (b - j)) /\ Below w.heap.size w wr) (fun _ _ _ i _ => fs.length - (intOf i).toNat)
 case atStart => exact ⟨0,j,123,ByteArray.empty,Nat.zero_le _,Nat.le_refl _,hj,rfl,rfl,rfl,rfl,(by show (0 : Int) <= 123;omega),HR,Nat.zero_le _,Below.refl _ _⟩
 case round =>
  obtain ⟨i,b,mk,d,hi,hjb,hbt,rfl,rfl,rfl,rfl,hmk,hR,hd,hb⟩:=hrel
  by_cases hlt : i < fs.length
  ·obtain ⟨f,hf⟩ : ∃ f,fs[i]? = some f:=⟨fs[i],List.getElem?_eq_getElem hlt⟩
   have hdrop : fs.drop i = f :: fs.drop (i + 1):=by
    rw [List.drop_eq_getElem_cons hlt];rw [List.getElem?_eq_getElem hlt] at hf;simp at hf;rw [hf]
   have hr0:=hr
   rcases hr with ⟨hr,_⟩ | ⟨g,rfl,hcells⟩
   ·rw [hr] at hf;simp at hf
   ·obtain ⟨p1,p2,p3,q1,q2,q3,hrep,k0,k1,k2,k3,k4,k5,k6⟩:=hcells i f hf
    have hg:=zaf k0
    have k0:=zaa hb k0
    have k1:=zaa hb k1
    have k2:=zaa hb k2
    have k3:=zaa hb k3
    have k4:=zaa hb k4
    have k5:=zaa hb k5
    have k6:=zaa hb k6
    have hg' : g < wr.heap.size:=zaf k0
    have hrepw:=hrep.keep hb
    have hBa : ∀ o m,Below wr.heap.size wr ((wr.alloc o).drewN m):=fun o m => below_drewN ((Below.refl _ _).alloc (Nat.le_refl _) _) m
    by_cases h1 : bAt t b = mk
    ·have h1' : (bAt t b != mk) = false:=by simp [h1]
     by_cases h2 : bAt t (b + 1) = f.1
     ·have h2' : (bAt t (b + 1) != (f.1 : Int)) = false:=by simp [h2]
      by_cases h3 : bAt t (b + 2) = 58
      ·have h3' : (bAt t (b + 2) != 58) = false:=by simp [h3]
       have hb3 : b + 2 < t.size:=zar (by omega)
       cases hx : enc false t n f.2.1 (b + 3) with
       | none =>
        have hr' : Hid (R = none):=by show _ = _;rw [hR.out,hdrop,zax,if_pos ⟨h1,h2,h3⟩,hx]
        have hcall:=fun o m => IH.no (show b + 3 <= t.size by omega) (hrepw.keep (hBa o m)) hx
        clear h1 h2 h3 hx
        go_wp2_with fail
        go_quiet ((go_at_call 101;exact Calls.quiet_of_same (zas _ _ _ (by omega) _hs)))
        go_wp2_with (go_at_call 135;refine (hcall _ _).mono ?_;rintro e w' ⟨rfl,hbw⟩)
        go_ret3
        rw [hr'.out]
        exact ⟨rfl,hb.trans (((hBa _ _).mono hb.size).trans (hbw.mono (by have:=hb.size;simp;omega)))⟩
       | some p =>
        obtain ⟨x,k⟩:=p
        obtain ⟨hb1,hb2,hbs⟩:=zbo hx
        have hsum : (d ++ x).size <= (9 * n + 9) * (k - j):=by
         rw [ByteArray.size_append]
         have e1:=zcj (C:=9 * n + 9) (show j <= b + 3 by omega) (show b + 3 <= k by omega)
         have e2:=zdm (C:=9 * n + 9) (show b - j <= b + 3 - j by omega)
         have:=hd.out
         omega
        have hs1:=zcr hbs hn (by omega)
        have hs2:=zcr hd.out hn (by omega)
        have HS : Hid ((d ++ x).size <= (9 * n + 9) * (k - j)):=hsum
        have hr' : Hid (R = zax (enc false t n) t (fs.drop (i + 1)) 44 k (d ++ x)):=by show _ = _;rw [hR.out,hdrop,zax,if_pos ⟨h1,h2,h3⟩,hx]
        have hcall:=fun o m => IH.yes (show b + 3 <= t.size by omega) (hrepw.keep (hBa o m)) hx
        clear h1 h2 h3 hx hbs hsum
        go_wp2_with fail
        go_quiet ((go_at_call 101;exact Calls.quiet_of_same (zas _ _ _ (by omega) _hs)))
        go_wp2_with (go_at_call 135;refine (hcall _ _).mono ?_;rintro e w' ⟨rfl,hbw⟩)
        go_roundw
        case rel => exact ⟨i + 1,k,44,d ++ x,by omega,by omega,by omega,by go_num,rfl,rfl,rfl,(by show (0 : Int) <= 44;omega),hr',HS,hb.trans (((hBa _ _).mono hb.size).trans (hbw.mono (by have:=hb.size;simp;omega)))⟩
        case measure => simp [intOf];omega
      ·have h3' : (bAt t (b + 2) != 58) = true:=by simpa using h3
       have hr' : Hid (R = none):=by show _ = _;rw [hR.out,hdrop,zax,if_neg (fun h => h3 h.2.2)]
       clear h1 h2 h3
       go_wp2_with fail
       go_quiet ((go_at_call 101;exact Calls.quiet_of_same (zas _ _ _ (by omega) _hs)))
       go_wp2_with fail
       go_ret3
       rw [hr'.out]
       exact ⟨rfl,hb.trans ((hBa _ _).mono hb.size)⟩
     ·have h2' : (bAt t (b + 1) != (f.1 : Int)) = true:=by simpa using h2
      have hr' : Hid (R = none):=by show _ = _;rw [hR.out,hdrop,zax,if_neg (fun h => h2 h.2.1)]
      clear h1 h2
      go_wp2_with fail
      go_quiet ((go_at_call 101;exact Calls.quiet_of_same (zas _ _ _ (by omega) _hs)))
      go_wp2_with fail
      go_ret3
      rw [hr'.out]
      exact ⟨rfl,hb.trans ((hBa _ _).mono hb.size)⟩
    ·have h1' : (bAt t b != mk) = true:=by simpa using h1
     have hr' : Hid (R = none):=by show _ = _;rw [hR.out,hdrop,zax,if_neg (fun h => h1 h.1)]
     clear h1
     go_wp2_with fail
     go_quiet ((go_at_call 101;exact Calls.quiet_of_same (zas _ _ _ (by omega) _hs)))
     go_wp2_with fail
     go_ret3
     rw [hr'.out]
     exact ⟨rfl,hb.trans ((hBa _ _).mono hb.size)⟩
  ·have hnil : fs.drop i = []:=List.drop_of_length_le (by omega)
   by_cases h5 : bAt t b = 125
   ·have h5' : (bAt t b != 125) = false:=by simp [h5]
    have hr' : Hid (R = some (d,b + 1)):=by show _ = _;rw [hR.out,hnil,zax,if_pos h5]
    clear h5
    go_wp2_with (go_at_call 101;refine (zas _ _ _ (by omega) _hs).mono ?_;rintro e w' ⟨rfl,rfl⟩)
    go_ret3
    rw [hr'.out]
    exact ⟨rfl,hb⟩
   ·have h5' : (bAt t b != 125) = true:=by simpa using h5
    have hr' : Hid (R = none):=by show _ = _;rw [hR.out,hnil,zax,if_neg h5]
    clear h5
    go_wp2_with (go_at_call 101;refine (zas _ _ _ (by omega) _hs).mono ?_;rintro e w' ⟨rfl,rfl⟩)
    go_ret3
    rw [hr'.out]
    exact ⟨rfl,hb⟩
end
section
open Go.RowKit
theorem zud {n : Nat} {t : ByteArray} (IH : EncAtOK n t) (ht : t.size <= 4096) (hn : n <= 100) : EncAtOK (n + 1) t:=by
 intro ty j w ai af li ci lf cf hj hr
 have _hs : t.size <= 9000000:=by omega
 have hB : ∀ o,Below w.heap.size w (w.alloc o):=fun o => (Below.refl _ _).alloc (Nat.le_refl _) _
 have hl8 : ty.letters.size <= 8:=hr.1
 have hlf:=hr.flds
 by_cases h105 : ty.kind = 105
 ·have h105' : ((ty.kind : Int) == 105) = true:=by simp [h105]
  have hr' : Hid (enc false t (n + 1) ty j = za3 false (-2147483648) 2147483647 t j):=by show _ = _;rw [enc,if_pos h105]
  clear h105 hr hlf
  go_enter Tryz.func135,Tryz.ntmps135
  cases hx : za3 false (-2147483648) 2147483647 t j with
  | none =>
   have hcall : ∀ o,Calls Tryz.prog 137 #[.int .i64 (-2147483648),.int .i64 2147483647,.string t,.int .i64 j] (w.alloc o) fun e w' => e = .returned (.tuple #[.string ByteArray.empty,.int .i64 j,.bool false]) /\ Below (w.alloc o).heap.size (w.alloc o) w':=fun o => by have:=zhr (-2147483648) 2147483647 t j (w.alloc o) _hs hj;rw [hx] at this;exact this
   go_wp2_with (go_at_call 137;refine (hcall _).mono ?_;rintro e w' ⟨rfl,hbw⟩)
   go_ret3
   rw [hr'.out,hx]
   exact ⟨rfl,(hB _).trans (hbw.mono (by simp))⟩
  | some p =>
   obtain ⟨d,k⟩:=p
   have hcall : ∀ o,Calls Tryz.prog 137 #[.int .i64 (-2147483648),.int .i64 2147483647,.string t,.int .i64 j] (w.alloc o) fun e w' => e = .returned (.tuple #[.string d,.int .i64 k,.bool true]) /\ Below (w.alloc o).heap.size (w.alloc o) w':=fun o => by have:=zhr (-2147483648) 2147483647 t j (w.alloc o) _hs hj;rw [hx] at this;exact this
   go_wp2_with (go_at_call 137;refine (hcall _).mono ?_;rintro e w' ⟨rfl,hbw⟩)
   go_ret3
   rw [hr'.out,hx]
   exact ⟨rfl,(hB _).trans (hbw.mono (by simp))⟩
 have h105' : ((ty.kind : Int) == 105) = false:=by simp;omega
 by_cases h108 : ty.kind = 108
 ·have h108' : ((ty.kind : Int) == 108) = true:=by simp [h108]
  have hr' : Hid (enc false t (n + 1) ty j = za3 false (-1000000000000000) 1000000000000000 t j):=by show _ = _;rw [enc,if_neg h105,if_pos h108]
  clear h105 h108 hr hlf
  go_enter Tryz.func135,Tryz.ntmps135
  cases hx : za3 false (-1000000000000000) 1000000000000000 t j with
  | none =>
   have hcall : ∀ o,Calls Tryz.prog 137 #[.int .i64 (-1000000000000000),.int .i64 1000000000000000,.string t,.int .i64 j] (w.alloc o) fun e w' => e = .returned (.tuple #[.string ByteArray.empty,.int .i64 j,.bool false]) /\ Below (w.alloc o).heap.size (w.alloc o) w':=fun o => by have:=zhr (-1000000000000000) 1000000000000000 t j (w.alloc o) _hs hj;rw [hx] at this;exact this
   go_wp2_with (go_at_call 137;refine (hcall _).mono ?_;rintro e w' ⟨rfl,hbw⟩)
   go_ret3
   rw [hr'.out,hx]
   exact ⟨rfl,(hB _).trans (hbw.mono (by simp))⟩
  | some p =>
   obtain ⟨d,k⟩:=p
   have hcall : ∀ o,Calls Tryz.prog 137 #[.int .i64 (-1000000000000000),.int .i64 1000000000000000,.string t,.int .i64 j] (w.alloc o) fun e w' => e = .returned (.tuple #[.string d,.int .i64 k,.bool true]) /\ Below (w.alloc o).heap.size (w.alloc o) w':=fun o => by have:=zhr (-1000000000000000) 1000000000000000 t j (w.alloc o) _hs hj;rw [hx] at this;exact this
   go_wp2_with (go_at_call 137;refine (hcall _).mono ?_;rintro e w' ⟨rfl,hbw⟩)
   go_ret3
   rw [hr'.out,hx]
   exact ⟨rfl,(hB _).trans (hbw.mono (by simp))⟩
 have h108' : ((ty.kind : Int) == 108) = false:=by simp;omega
 by_cases h115 : ty.kind = 115
 ·have h115' : ((ty.kind : Int) == 115) = true:=by simp [h115]
  have hr' : Hid (enc false t (n + 1) ty j = zbh t j):=by show _ = _;rw [enc,if_neg h105,if_neg h108,if_pos h115]
  clear h105 h108 h115 hr hlf
  go_enter Tryz.func135,Tryz.ntmps135
  cases hx : zbh t j with
  | none =>
   have hcall : ∀ o,Calls Tryz.prog 138 #[.string t,.int .i64 j] (w.alloc o) fun e w' => e = .returned (.tuple #[.string ByteArray.empty,.int .i64 j,.bool false]) /\ Below (w.alloc o).heap.size (w.alloc o) w':=fun o => by have:=znu t j (w.alloc o) _hs hj;rw [hx] at this;exact this
   go_wp2_with (go_at_call 138;refine (hcall _).mono ?_;rintro e w' ⟨rfl,hbw⟩)
   go_ret3
   rw [hr'.out,hx]
   exact ⟨rfl,(hB _).trans (hbw.mono (by simp))⟩
  | some p =>
   obtain ⟨d,k⟩:=p
   have hcall : ∀ o,Calls Tryz.prog 138 #[.string t,.int .i64 j] (w.alloc o) fun e w' => e = .returned (.tuple #[.string d,.int .i64 k,.bool true]) /\ Below (w.alloc o).heap.size (w.alloc o) w':=fun o => by have:=znu t j (w.alloc o) _hs hj;rw [hx] at this;exact this
   go_wp2_with (go_at_call 138;refine (hcall _).mono ?_;rintro e w' ⟨rfl,hbw⟩)
   go_ret3
   rw [hr'.out,hx]
   exact ⟨rfl,(hB _).trans (hbw.mono (by simp))⟩
 have h115' : ((ty.kind : Int) == 115) = false:=by simp;omega
 by_cases h60 : ty.kind = 60
 ·have h60' : ((ty.kind : Int) == 60) = true:=by simp [h60]
  have hr' : Hid (enc false t (n + 1) ty j = zcc ty.letters t j):=by show _ = _;rw [enc,if_neg h105,if_neg h108,if_neg h115,if_pos h60];rfl
  clear h105 h108 h115 h60 hr hlf
  go_enter Tryz.func135,Tryz.ntmps135
  cases hx : zcc ty.letters t j with
  | none =>
   have hcall : ∀ o,Calls Tryz.prog 139 #[.string ty.letters,.string t,.int .i64 j] (w.alloc o) fun e w' => e = .returned (.tuple #[.string ByteArray.empty,.int .i64 j,.bool false]) /\ Below (w.alloc o).heap.size (w.alloc o) w':=fun o => by have:=znq ty.letters t j (w.alloc o) _hs hl8 hj;rw [hx] at this;exact this
   go_wp2_with (go_at_call 139;refine (hcall _).mono ?_;rintro e w' ⟨rfl,hbw⟩)
   go_ret3
   rw [hr'.out,hx]
   exact ⟨rfl,(hB _).trans (hbw.mono (by simp))⟩
  | some p =>
   obtain ⟨d,k⟩:=p
   have hcall : ∀ o,Calls Tryz.prog 139 #[.string ty.letters,.string t,.int .i64 j] (w.alloc o) fun e w' => e = .returned (.tuple #[.string d,.int .i64 k,.bool true]) /\ Below (w.alloc o).heap.size (w.alloc o) w':=fun o => by have:=znq ty.letters t j (w.alloc o) _hs hl8 hj;rw [hx] at this;exact this
   go_wp2_with (go_at_call 139;refine (hcall _).mono ?_;rintro e w' ⟨rfl,hbw⟩)
   go_ret3
   rw [hr'.out,hx]
   exact ⟨rfl,(hB _).trans (hbw.mono (by simp))⟩
 have h60' : ((ty.kind : Int) == 60) = false:=by simp;omega
 by_cases h91 : ty.kind = 91
 ·have h91' : ((ty.kind : Int) == 91) = true:=by simp [h91]
  have hr' : Hid (enc false t (n + 1) ty j = zbk (enc false t n ty.in) t j):=by show _ = _;rw [enc,if_neg h105,if_neg h108,if_neg h115,if_neg h60,if_pos h91]
  have hne : ty.inner ≠ []:=hr.2.2.2.1.1 (by omega)
  have hin:=fun o => zh1 n (w.alloc o) ai af li ci lf cf ty (hr.keep (hB o)) hne
  clear h105 h108 h115 h60 h91 hr hlf
  cases hx : zbk (enc false t n ty.in) t j with
  | none =>
   have hcall : ∀ (w1 : World) p1 p2 p3 q1 q2 q3,Rep n w1 p1 p2 p3 q1 q2 q3 ty.in -> Calls Tryz.prog 140 #[.agg #[.int .i64 ty.in.kind,.string ty.in.letters,.bool ty.in.op,.slice p1 p2 p3,.slice q1 q2 q3],.string t,.int .i64 j] w1 fun e w' => e = .returned (.tuple #[.string ByteArray.empty,.int .i64 j,.bool false]) /\ Below w1.heap.size w1 w':=fun w1 p1 p2 p3 q1 q2 q3 h1 => by have:=znr IH ht hn ty.in j w1 p1 q1 p2 p3 q2 q3 hj h1;rw [hx] at this;exact this
   go_enter Tryz.func135,Tryz.ntmps135
   go_wp2_with (first | (go_at_call 84;refine (hin _).mono ?_;rintro e w1 ⟨p1,p2,p3,q1,q2,q3,rfl,hr1,hb1⟩) | (go_at_call 140;refine (hcall _ _ _ _ _ _ _ hr1).mono ?_;rintro e w2 ⟨rfl,hb2⟩))
   go_ret3
   rw [hr'.out,hx]
   exact ⟨rfl,(hB _).trans ((hb1.mono (by simp)).trans (hb2.mono (by have:=hb1.size;simp at this;omega)))⟩
  | some p =>
   obtain ⟨d,k⟩:=p
   have hcall : ∀ (w1 : World) p1 p2 p3 q1 q2 q3,Rep n w1 p1 p2 p3 q1 q2 q3 ty.in -> Calls Tryz.prog 140 #[.agg #[.int .i64 ty.in.kind,.string ty.in.letters,.bool ty.in.op,.slice p1 p2 p3,.slice q1 q2 q3],.string t,.int .i64 j] w1 fun e w' => e = .returned (.tuple #[.string d,.int .i64 k,.bool true]) /\ Below w1.heap.size w1 w':=fun w1 p1 p2 p3 q1 q2 q3 h1 => by have:=znr IH ht hn ty.in j w1 p1 q1 p2 p3 q2 q3 hj h1;rw [hx] at this;exact this
   go_enter Tryz.func135,Tryz.ntmps135
   go_wp2_with (first | (go_at_call 84;refine (hin _).mono ?_;rintro e w1 ⟨p1,p2,p3,q1,q2,q3,rfl,hr1,hb1⟩) | (go_at_call 140;refine (hcall _ _ _ _ _ _ _ hr1).mono ?_;rintro e w2 ⟨rfl,hb2⟩))
   go_ret3
   rw [hr'.out,hx]
   exact ⟨rfl,(hB _).trans ((hb1.mono (by simp)).trans (hb2.mono (by have:=hb1.size;simp at this;omega)))⟩
 have h91' : ((ty.kind : Int) == 91) = false:=by simp;omega
 by_cases h63 : ty.kind = 63
 ·have h63' : ((ty.kind : Int) == 63) = true:=by simp [h63]
  have hr' : Hid (enc false t (n + 1) ty j = zbn (enc false t n ty.in) t j):=by show _ = _;rw [enc,if_neg h105,if_neg h108,if_neg h115,if_neg h60,if_neg h91,if_pos h63]
  have hne : ty.inner ≠ []:=hr.2.2.2.1.1 (by omega)
  have hin:=fun o => zh1 n (w.alloc o) ai af li ci lf cf ty (hr.keep (hB o)) hne
  clear h105 h108 h115 h60 h91 h63 hr hlf
  cases hx : zbn (enc false t n ty.in) t j with
  | none =>
   have hcall : ∀ (w1 : World) p1 p2 p3 q1 q2 q3,Rep n w1 p1 p2 p3 q1 q2 q3 ty.in -> Calls Tryz.prog 141 #[.agg #[.int .i64 ty.in.kind,.string ty.in.letters,.bool ty.in.op,.slice p1 p2 p3,.slice q1 q2 q3],.string t,.int .i64 j] w1 fun e w' => e = .returned (.tuple #[.string ByteArray.empty,.int .i64 j,.bool false]) /\ Below w1.heap.size w1 w':=fun w1 p1 p2 p3 q1 q2 q3 h1 => by have:=zns IH ht hn ty.in j w1 p1 q1 p2 p3 q2 q3 hj h1;rw [hx] at this;exact this
   go_enter Tryz.func135,Tryz.ntmps135
   go_wp2_with (first | (go_at_call 84;refine (hin _).mono ?_;rintro e w1 ⟨p1,p2,p3,q1,q2,q3,rfl,hr1,hb1⟩) | (go_at_call 141;refine (hcall _ _ _ _ _ _ _ hr1).mono ?_;rintro e w2 ⟨rfl,hb2⟩))
   go_ret3
   rw [hr'.out,hx]
   exact ⟨rfl,(hB _).trans ((hb1.mono (by simp)).trans (hb2.mono (by have:=hb1.size;simp at this;omega)))⟩
  | some p =>
   obtain ⟨d,k⟩:=p
   have hcall : ∀ (w1 : World) p1 p2 p3 q1 q2 q3,Rep n w1 p1 p2 p3 q1 q2 q3 ty.in -> Calls Tryz.prog 141 #[.agg #[.int .i64 ty.in.kind,.string ty.in.letters,.bool ty.in.op,.slice p1 p2 p3,.slice q1 q2 q3],.string t,.int .i64 j] w1 fun e w' => e = .returned (.tuple #[.string d,.int .i64 k,.bool true]) /\ Below w1.heap.size w1 w':=fun w1 p1 p2 p3 q1 q2 q3 h1 => by have:=zns IH ht hn ty.in j w1 p1 q1 p2 p3 q2 q3 hj h1;rw [hx] at this;exact this
   go_enter Tryz.func135,Tryz.ntmps135
   go_wp2_with (first | (go_at_call 84;refine (hin _).mono ?_;rintro e w1 ⟨p1,p2,p3,q1,q2,q3,rfl,hr1,hb1⟩) | (go_at_call 141;refine (hcall _ _ _ _ _ _ _ hr1).mono ?_;rintro e w2 ⟨rfl,hb2⟩))
   go_ret3
   rw [hr'.out,hx]
   exact ⟨rfl,(hB _).trans ((hb1.mono (by simp)).trans (hb2.mono (by have:=hb1.size;simp at this;omega)))⟩
 have h63' : ((ty.kind : Int) == 63) = false:=by simp;omega
 by_cases h123 : ty.kind = 123
 ·have h123' : ((ty.kind : Int) == 123) = true:=by simp [h123]
  have hr' : Hid (enc false t (n + 1) ty j = zax (enc false t n) t ty.fields 123 j ByteArray.empty):=by show _ = _;rw [enc,if_neg h105,if_neg h108,if_neg h115,if_neg h60,if_neg h91,if_neg h63,if_pos h123]
  obtain ⟨hl1,hl2,hl3⟩:=hlf
  have hrf:=fun o => (hr.keep (hB o)).flds.2.2
  clear h105 h108 h115 h60 h91 h63 h123 hr hl3
  cases hx : zax (enc false t n) t ty.fields 123 j ByteArray.empty with
  | none =>
   have hcall : ∀ o,Calls Tryz.prog 142 #[.slice af lf cf,.string t,.int .i64 j] (w.alloc o) fun e w' => e = .returned (.tuple #[.string ByteArray.empty,.int .i64 j,.bool false]) /\ Below (w.alloc o).heap.size (w.alloc o) w':=fun o => by have:=znt IH ht hn ty.fields j (w.alloc o) af lf cf hj hl1 hl2 (hrf o);rw [hx] at this;exact this
   clear hl1 hl2 hrf
   go_enter Tryz.func135,Tryz.ntmps135
   go_wp2_with (go_at_call 142;refine (hcall _).mono ?_;rintro e w' ⟨rfl,hbw⟩)
   go_ret3
   rw [hr'.out,hx]
   exact ⟨rfl,(hB _).trans (hbw.mono (by simp))⟩
  | some p =>
   obtain ⟨d,k⟩:=p
   have hcall : ∀ o,Calls Tryz.prog 142 #[.slice af lf cf,.string t,.int .i64 j] (w.alloc o) fun e w' => e = .returned (.tuple #[.string d,.int .i64 k,.bool true]) /\ Below (w.alloc o).heap.size (w.alloc o) w':=fun o => by have:=znt IH ht hn ty.fields j (w.alloc o) af lf cf hj hl1 hl2 (hrf o);rw [hx] at this;exact this
   clear hl1 hl2 hrf
   go_enter Tryz.func135,Tryz.ntmps135
   go_wp2_with (go_at_call 142;refine (hcall _).mono ?_;rintro e w' ⟨rfl,hbw⟩)
   go_ret3
   rw [hr'.out,hx]
   exact ⟨rfl,(hB _).trans (hbw.mono (by simp))⟩
 have h123' : ((ty.kind : Int) == 123) = false:=by simp;omega
 have hr' : Hid (enc false t (n + 1) ty j = none):=by show _ = _;rw [enc,if_neg h105,if_neg h108,if_neg h115,if_neg h60,if_neg h91,if_neg h63,if_neg h123]
 clear h105 h108 h115 h60 h91 h63 h123 hr hlf
 go_enter Tryz.func135,Tryz.ntmps135
 go_wp2_with fail
 go_ret3
 rw [hr'.out]
 exact ⟨rfl,hB _⟩
theorem znp {t : ByteArray} (ht : t.size <= 4096) : ∀ n,n <= 101 -> EncAtOK n t
 | 0,_ => fun _ _ _ _ _ _ _ _ _ _ h => h.elim
 | n + 1,hn => zud (znp ht n (by omega)) ht (by omega)
end
end Go.Proofs.YtkkekopomiehlaaGreat
