import Derived.Test.YtkkekopomiehlaaGreatCDec10
set_option linter.unusedVariables false
set_option linter.unusedSimpArgs false
set_option maxHeartbeats 40000000
set_option maxRecDepth 4000
namespace Go.Proofs.YtkkekopomiehlaaGreat
section
open Go.RowKit
theorem zt1 {t : ByteArray} {n : Nat} {ty : Ty} {j : Nat} (h : t.size <= j) : dec t n ty j = none:=by
 rcases hx : dec t n ty j with _ | ⟨d,k⟩
 ·rfl
 ·have:=zhp hx;omega
set_option maxRecDepth 10000 in
theorem zz7 {n : Nat} {s t : ByteArray} (IL : TellOK n s t) (IF : zhd n s) (hs : s.size <= 4096) (ht : t.size <= 4096) (hn : n <= 100) : TellOK (n + 1) s t:=by
 intro i j w ty k hp hi hj
 have _hs : t.size <= 9000000:=by omega
 have hik:=za8 true s _ _ _ _ hp
 have his : i < s.size:=by omega
 have hbi : Hid (bAt s i = s[i].toNat):=za1 s i his
 by_cases hjt : t.size <= j
 ·rw [zt1 hjt]
  clear hp
  go_enter Tryz.func97,Tryz.ntmps97
  go_wp2_with fail
  go_ret2
  exact ⟨rfl,Below.refl _ _⟩
 ·have hjt' : j < t.size:=by omega
  have hbj : Hid (bAt t j = t[j].toNat):=za1 t j hjt'
  rw [zac] at hp
  by_cases h105 : bAt s i = 105
  ·have h105' : ((s[i].toNat : Int) == 105) = true:=by rw [<- hbi.out];simp [h105]
   rw [if_pos h105] at hp
   have hk : ty.kind = 105:=by simp only [Option.some.injEq,Prod.mk.injEq] at hp;rw [<- hp.1];rfl
   have hr' : Hid (dec t (n + 1) ty j = zcu (-2147483648) 2147483647 t j):=by show _ = _;rw [dec,if_pos hk]
   have hjt2:=hjt'
   cases hx : zcu (-2147483648) 2147483647 t j with
   | none =>
    have hcall : ∀ w,Calls Tryz.prog 117 #[.string t,.int .i64 j,.int .i64 (-2147483648),.int .i64 2147483647] w fun e w' => e = .returned (.tuple #[.string ByteArray.empty,.int .i64 (-1)]) /\ Below w.heap.size w w':=fun w => by have : Calls _ _ _ _ (fun e w' => e = .returned (zbx (za4 (-2147483648) 2147483647 t j)) /\ Below w.heap.size w w'):=zi2 t j (-2147483648) 2147483647 w _hs hjt' (by omega) (by omega);rw [zi1 _ _ _ _ hjt2,hx] at this;exact this
    rw [hr'.out,hx]
    clear hx h105 hp hk
    go_enter Tryz.func97,Tryz.ntmps97
    go_wp2_with (go_at_call 117;refine (hcall _).mono ?_;rintro e w1 ⟨rfl,hb1⟩)
    go_ret2
    exact ⟨rfl,hb1⟩
   | some p =>
    obtain ⟨d,m⟩:=p
    have hcall : ∀ w,Calls Tryz.prog 117 #[.string t,.int .i64 j,.int .i64 (-2147483648),.int .i64 2147483647] w fun e w' => e = .returned (.tuple #[.string d,.int .i64 m]) /\ Below w.heap.size w w':=fun w => by have : Calls _ _ _ _ (fun e w' => e = .returned (zbx (za4 (-2147483648) 2147483647 t j)) /\ Below w.heap.size w w'):=zi2 t j (-2147483648) 2147483647 w _hs hjt' (by omega) (by omega);rw [zi1 _ _ _ _ hjt2,hx] at this;exact this
    rw [hr'.out,hx]
    clear hx h105 hp hk
    go_enter Tryz.func97,Tryz.ntmps97
    go_wp2_with (go_at_call 117;refine (hcall _).mono ?_;rintro e w1 ⟨rfl,hb1⟩)
    go_ret2
    exact ⟨rfl,hb1⟩
  have h105' : ((s[i].toNat : Int) == 105) = false:=by rw [<- hbi.out];simpa using h105
  by_cases h108 : bAt s i = 108
  ·have h108' : ((s[i].toNat : Int) == 108) = true:=by rw [<- hbi.out];simp [h108]
   rw [if_neg h105,if_pos h108] at hp
   have hk : ty.kind = 108:=by simp only [Option.some.injEq,Prod.mk.injEq] at hp;rw [<- hp.1];rfl
   have hr' : Hid (dec t (n + 1) ty j = zcu (-1000000000000000) 1000000000000000 t j):=by show _ = _;rw [dec,if_neg (by omega),if_pos hk]
   have hjt2:=hjt'
   cases hx : zcu (-1000000000000000) 1000000000000000 t j with
   | none =>
    have hcall : ∀ w,Calls Tryz.prog 117 #[.string t,.int .i64 j,.int .i64 (-1000000000000000),.int .i64 1000000000000000] w fun e w' => e = .returned (.tuple #[.string ByteArray.empty,.int .i64 (-1)]) /\ Below w.heap.size w w':=fun w => by have : Calls _ _ _ _ (fun e w' => e = .returned (zbx (za4 (-1000000000000000) 1000000000000000 t j)) /\ Below w.heap.size w w'):=zi2 t j (-1000000000000000) 1000000000000000 w _hs hjt' (by omega) (by omega);rw [zi1 _ _ _ _ hjt2,hx] at this;exact this
    rw [hr'.out,hx]
    clear hx h105 h108 hp hk
    go_enter Tryz.func97,Tryz.ntmps97
    go_wp2_with (go_at_call 117;refine (hcall _).mono ?_;rintro e w1 ⟨rfl,hb1⟩)
    go_ret2
    exact ⟨rfl,hb1⟩
   | some p =>
    obtain ⟨d,m⟩:=p
    have hcall : ∀ w,Calls Tryz.prog 117 #[.string t,.int .i64 j,.int .i64 (-1000000000000000),.int .i64 1000000000000000] w fun e w' => e = .returned (.tuple #[.string d,.int .i64 m]) /\ Below w.heap.size w w':=fun w => by have : Calls _ _ _ _ (fun e w' => e = .returned (zbx (za4 (-1000000000000000) 1000000000000000 t j)) /\ Below w.heap.size w w'):=zi2 t j (-1000000000000000) 1000000000000000 w _hs hjt' (by omega) (by omega);rw [zi1 _ _ _ _ hjt2,hx] at this;exact this
    rw [hr'.out,hx]
    clear hx h105 h108 hp hk
    go_enter Tryz.func97,Tryz.ntmps97
    go_wp2_with (go_at_call 117;refine (hcall _).mono ?_;rintro e w1 ⟨rfl,hb1⟩)
    go_ret2
    exact ⟨rfl,hb1⟩
  have h108' : ((s[i].toNat : Int) == 108) = false:=by rw [<- hbi.out];simpa using h108
  by_cases h115 : bAt s i = 115
  ·have h115' : ((s[i].toNat : Int) == 115) = true:=by rw [<- hbi.out];simp [h115]
   rw [if_neg h105,if_neg h108,if_pos h115] at hp
   have hk : ty.kind = 115:=by simp only [Option.some.injEq,Prod.mk.injEq] at hp;rw [<- hp.1];rfl
   have hr' : Hid (dec t (n + 1) ty j = zb6 t j):=by show _ = _;rw [dec,if_neg (by omega),if_neg (by omega),if_pos hk]
   cases hx : zb6 t j with
   | none =>
    have hcall : ∀ w,Calls Tryz.prog 118 #[.string t,.int .i64 j] w fun e w' => e = .returned (.tuple #[.string ByteArray.empty,.int .i64 (-1)]) /\ Below w.heap.size w w':=fun w => by have : Calls _ _ _ _ (fun e w' => e = .returned (zbx (zb6 t j)) /\ Below w.heap.size w w'):=(zq9 t j w _hs hjt').mono (fun _ _ (h : _ /\ _) => And.intro h.1 (h.2 ▸ Below.refl _ _));rw [hx] at this;exact this
    rw [hr'.out,hx]
    clear hx h105 h108 h115 hp hk
    go_enter Tryz.func97,Tryz.ntmps97
    go_wp2_with (go_at_call 118;refine (hcall _).mono ?_;rintro e w1 ⟨rfl,hb1⟩)
    go_ret2
    exact ⟨rfl,hb1⟩
   | some p =>
    obtain ⟨d,m⟩:=p
    have hcall : ∀ w,Calls Tryz.prog 118 #[.string t,.int .i64 j] w fun e w' => e = .returned (.tuple #[.string d,.int .i64 m]) /\ Below w.heap.size w w':=fun w => by have : Calls _ _ _ _ (fun e w' => e = .returned (zbx (zb6 t j)) /\ Below w.heap.size w w'):=(zq9 t j w _hs hjt').mono (fun _ _ (h : _ /\ _) => And.intro h.1 (h.2 ▸ Below.refl _ _));rw [hx] at this;exact this
    rw [hr'.out,hx]
    clear hx h105 h108 h115 hp hk
    go_enter Tryz.func97,Tryz.ntmps97
    go_wp2_with (go_at_call 118;refine (hcall _).mono ?_;rintro e w1 ⟨rfl,hb1⟩)
    go_ret2
    exact ⟨rfl,hb1⟩
  have h115' : ((s[i].toNat : Int) == 115) = false:=by rw [<- hbi.out];simpa using h115
  by_cases h60 : bAt s i = 60
  ·have h60' : ((s[i].toNat : Int) == 60) = true:=by rw [<- hbi.out];simp [h60]
   rw [if_neg h105,if_neg h108,if_neg h115,if_pos h60,zfj s (i + 1) (by omega)] at hp
   obtain ⟨hk,hlet,hl8⟩:=zim hp
   have hr' : dec t (n + 1) ty j = zdu ty.letters t j:=by rw [dec,if_neg (by omega),if_neg (by omega),if_neg (by omega),if_pos hk]
   rw [hr']
   obtain ⟨l,hl⟩ : ∃ l,l = ty.letters:=⟨_,rfl⟩
   rw [<- hl] at hlet hl8 ⊢
   have hcall : ∀ w,Calls Tryz.prog 91 #[.string s,.int .i64 i] w fun e w' => e = .returned (.string l) /\ w = w':=fun w => by rw [hlet];exact zam (zey s i w (by omega) his)
   have hb256:=t[j].toNat_lt
   by_cases hx : t[j].toNat < l.size
   ·have hr : Hid (zdu l t j = some (l.extract t[j].toNat (t[j].toNat + 1),j + 1)):=by
     show _ = _;unfold zdu;rw [hbj.out,Int.toNat_natCast,za1 l _ hx,if_neg (by omega),zgj l _ hx,za1 l _ hx]
    have hx' : (t[j].toNat : Int) < (l.size : Int):=by omega
    have hx8 : t[j].toNat < 8:=by omega
    clear h105 h108 h115 h60 hp hk hr' hl hlet hik
    go_enter Tryz.func97,Tryz.ntmps97
    have i2' : IntKind.u8.wrap ((t[j].toNat : Int) + 1) = (t[j].toNat : Int) + 1:=by rw [IntKind.wrap_u8];omega
    have i3' : IntKind.i64.wrap ((j : Int) + 1) = (j : Int) + 1:=by rw [IntKind.wrap_i64];omega
    go_wp2_with (go_at_call 91;refine (hcall _).mono ?_;rintro e _ ⟨rfl,rfl⟩)
    go_quiet (fail)
    go_wp2_with fail
    go_ret2
    rw [hr.out]
    exact ⟨rfl,below_drewN (Below.refl _ _) _⟩
   ·have hr : Hid (zdu l t j = none):=by
     show _ = _;unfold zdu;rw [hbj.out,Int.toNat_natCast,zci l _ (by omega),if_pos (by omega)]
    have hx' : ¬ (t[j].toNat : Int) < (l.size : Int):=by omega
    clear h105 h108 h115 h60 hp hk hr' hl hlet hik
    go_enter Tryz.func97,Tryz.ntmps97
    go_wp2_with (go_at_call 91;refine (hcall _).mono ?_;rintro e _ ⟨rfl,rfl⟩)
    go_ret2
    rw [hr.out]
    exact ⟨rfl,Below.refl _ _⟩
  have h60' : ((s[i].toNat : Int) == 60) = false:=by rw [<- hbi.out];simpa using h60
  by_cases h91 : bAt s i = 91
  ·have h91' : ((s[i].toNat : Int) == 91) = true:=by rw [<- hbi.out];simp [h91]
   rw [if_neg h105,if_neg h108,if_neg h115,if_neg h60,if_pos h91] at hp
   unfold zbt at hp
   rcases hq : zac true s n (i + 1) with _ | ⟨t',k'⟩
   ·rw [hq] at hp;cases hp
   rw [hq] at hp
   simp only at hp
   by_cases h93 : bAt s k' = 93
   ·rw [if_pos h93] at hp
    simp only [Option.some.injEq,Prod.mk.injEq] at hp
    obtain ⟨rfl,rfl⟩:=hp
    have hr' : Hid (dec t (n + 1) ⟨91,ByteArray.empty,false,[t'],[]⟩ j = zc0 (dec t n t') t j):=rfl
    cases hx : zc0 (dec t n t') t j with
    | none =>
     have hcall : ∀ w,Calls Tryz.prog 119 #[.string s,.int .i64 (i + 1 : Nat),.string t,.int .i64 j] w fun e w' => e = .returned (.tuple #[.string ByteArray.empty,.int .i64 (-1)]) /\ Below w.heap.size w w':=fun w => by have : Calls _ _ _ _ (fun e w' => e = .returned (zbx (zc0 (dec t n t') t j)) /\ Below w.heap.size w w'):=zq7 IL ht hn (i + 1) j w hq (by omega) hjt';rw [hx] at this;exact this
     rw [hr'.out,hx]
     clear hx h105 h108 h115 h60 h91 hq h93
     go_enter Tryz.func97,Tryz.ntmps97
     go_wp2_with (go_at_call 119;refine (hcall _).mono ?_;rintro e w1 ⟨rfl,hb1⟩)
     go_ret2
     exact ⟨rfl,hb1⟩
    | some p =>
     obtain ⟨d,m⟩:=p
     have hcall : ∀ w,Calls Tryz.prog 119 #[.string s,.int .i64 (i + 1 : Nat),.string t,.int .i64 j] w fun e w' => e = .returned (.tuple #[.string d,.int .i64 m]) /\ Below w.heap.size w w':=fun w => by have : Calls _ _ _ _ (fun e w' => e = .returned (zbx (zc0 (dec t n t') t j)) /\ Below w.heap.size w w'):=zq7 IL ht hn (i + 1) j w hq (by omega) hjt';rw [hx] at this;exact this
     rw [hr'.out,hx]
     clear hx h105 h108 h115 h60 h91 hq h93
     go_enter Tryz.func97,Tryz.ntmps97
     go_wp2_with (go_at_call 119;refine (hcall _).mono ?_;rintro e w1 ⟨rfl,hb1⟩)
     go_ret2
     exact ⟨rfl,hb1⟩
   ·rw [if_neg h93] at hp;cases hp
  have h91' : ((s[i].toNat : Int) == 91) = false:=by rw [<- hbi.out];simpa using h91
  by_cases h63 : bAt s i = 63
  ·have h63' : ((s[i].toNat : Int) == 63) = true:=by rw [<- hbi.out];simp [h63]
   rw [if_neg h105,if_neg h108,if_neg h115,if_neg h60,if_neg h91,if_pos h63] at hp
   unfold zbq at hp
   rcases hq : zac true s n (i + 1) with _ | ⟨t',k'⟩
   ·rw [hq] at hp;cases hp
   rw [hq] at hp
   simp only at hp
   by_cases hm : t'.kind = 63
   ·rw [if_pos hm] at hp;cases hp
   rw [if_neg hm] at hp
   simp only [Option.some.injEq,Prod.mk.injEq] at hp
   obtain ⟨rfl,rfl⟩:=hp
   have hr' : dec t (n + 1) ⟨63,ByteArray.empty,false,[t'],[]⟩ j = zcs (dec t n t') t j:=rfl
   rw [hr']
   by_cases h0 : bAt t j = 0
   ·have h0' : ((t[j].toNat : Int) == 0) = true:=by rw [<- hbj.out];simp [h0]
    have hr : Hid (zcs (dec t n t') t j = some (⟨#[95]⟩,j + 1)):=by show _ = _;unfold zcs;rw [if_pos h0]
    clear h105 h108 h115 h60 h91 h63 hq hm hr' h0
    go_enter Tryz.func97,Tryz.ntmps97
    go_wp2_with fail
    go_ret2
    rw [hr.out]
    exact ⟨rfl,Below.refl _ _⟩
   ·have h0' : ((t[j].toNat : Int) == 0) = false:=by rw [<- hbj.out];simpa using h0
    by_cases h1 : bAt t j = 1
    ·have h1' : ((t[j].toNat : Int) == 1) = true:=by rw [<- hbj.out];simp [h1]
     cases hx : dec t n t' (j + 1) with
     | none =>
      have hr : Hid (zcs (dec t n t') t j = none):=by show _ = _;unfold zcs;rw [if_neg h0,if_pos h1,hx]
      have hcall:=fun w => IL.no w hq (show s.size <= i + 1 + n by omega) (show j + 1 <= t.size by omega) hx
      clear h105 h108 h115 h60 h91 h63 hq hm hr' h0 h1 hx
      go_enter Tryz.func97,Tryz.ntmps97
      go_wp2_with (go_at_call 97;refine (hcall _).mono ?_;rintro e w1 ⟨rfl,hb1⟩)
      go_ret2
      rw [hr.out]
      exact ⟨rfl,hb1⟩
     | some p =>
      obtain ⟨d,m⟩:=p
      have hr : Hid (zcs (dec t n t') t j = some (d,m)):=by show _ = _;unfold zcs;rw [if_neg h0,if_pos h1,hx]
      have hcall:=fun w => IL.yes w hq (show s.size <= i + 1 + n by omega) (show j + 1 <= t.size by omega) hx
      clear h105 h108 h115 h60 h91 h63 hq hm hr' h0 h1 hx
      go_enter Tryz.func97,Tryz.ntmps97
      go_wp2_with (go_at_call 97;refine (hcall _).mono ?_;rintro e w1 ⟨rfl,hb1⟩)
      go_ret2
      rw [hr.out]
      exact ⟨rfl,hb1⟩
    ·have h1' : ((t[j].toNat : Int) == 1) = false:=by rw [<- hbj.out];simpa using h1
     have hr : Hid (zcs (dec t n t') t j = none):=by show _ = _;unfold zcs;rw [if_neg h0,if_neg h1]
     clear h105 h108 h115 h60 h91 h63 hq hm hr' h0 h1
     go_enter Tryz.func97,Tryz.ntmps97
     go_wp2_with fail
     go_ret2
     rw [hr.out]
     exact ⟨rfl,Below.refl _ _⟩
  have h63' : ((s[i].toNat : Int) == 63) = false:=by rw [<- hbi.out];simpa using h63
  by_cases h123 : bAt s i = 123
  ·have h123' : ((s[i].toNat : Int) == 123) = true:=by rw [<- hbi.out];simp [h123]
   rw [if_neg h105,if_neg h108,if_neg h115,if_neg h60,if_neg h91,if_neg h63,if_pos h123] at hp
   unfold pRec at hp
   rcases hq : zaz (zaj (zac true s n) (enc true s n) s) s (s.size - (i + 1)) (i + 1) [] with _ | ⟨fs,k'⟩
   ·rw [hq] at hp;cases hp
   rw [hq] at hp
   simp only [Option.some.injEq,Prod.mk.injEq] at hp
   obtain ⟨rfl,rfl⟩:=hp
   have hfb:=fun a f k (h : zaj (zac true s n) (enc true s n) s a = some (f,k)) => zih (za8 true s n) (fun ty j d k h => ⟨(zbo h).1,(zbo h).2.1⟩) h
   have hlen:=zgz hfb (by simp) hq
   have hkk:=(zgy hfb hq).2
   have hF:=fun w => IF i w his (by omega)
   rw [hq] at hF
   have hr' : Hid (dec t (n + 1) ⟨123,ByteArray.empty,false,[],fs⟩ j = zbw (dec t n) fs ⟨#[123]⟩ j ByteArray.empty):=by show _ = _;rw [dec];simp only [Nat.reduceEqDiff,if_false];rw [if_pos ⟨trivial,by intro h;rw [h] at hlen;simp at hlen⟩]
   cases hx : zbw (dec t n) fs ⟨#[123]⟩ j ByteArray.empty with
   | none =>
    have hcall : ∀ w,Calls Tryz.prog 120 #[.string s,.int .i64 i,.string t,.int .i64 j] w fun e w' => e = .returned (.tuple #[.string ByteArray.empty,.int .i64 (-1)]) /\ Below w.heap.size w w':=fun w => by have : Calls _ _ _ _ (fun e w' => e = .returned (zbx (zbw (dec t n) fs ⟨#[123]⟩ j ByteArray.empty)) /\ Below w.heap.size w w'):=zq8 IL ht hn i j hlen.1 (by omega) hF w hjt';rw [hx] at this;exact this
    rw [hr'.out,hx]
    clear hx h105 h108 h115 h60 h91 h63 h123 hq hF hfb
    go_enter Tryz.func97,Tryz.ntmps97
    go_wp2_with (go_at_call 120;refine (hcall _).mono ?_;rintro e w1 ⟨rfl,hb1⟩)
    go_ret2
    exact ⟨rfl,hb1⟩
   | some p =>
    obtain ⟨d,m⟩:=p
    have hcall : ∀ w,Calls Tryz.prog 120 #[.string s,.int .i64 i,.string t,.int .i64 j] w fun e w' => e = .returned (.tuple #[.string d,.int .i64 m]) /\ Below w.heap.size w w':=fun w => by have : Calls _ _ _ _ (fun e w' => e = .returned (zbx (zbw (dec t n) fs ⟨#[123]⟩ j ByteArray.empty)) /\ Below w.heap.size w w'):=zq8 IL ht hn i j hlen.1 (by omega) hF w hjt';rw [hx] at this;exact this
    rw [hr'.out,hx]
    clear hx h105 h108 h115 h60 h91 h63 h123 hq hF hfb
    go_enter Tryz.func97,Tryz.ntmps97
    go_wp2_with (go_at_call 120;refine (hcall _).mono ?_;rintro e w1 ⟨rfl,hb1⟩)
    go_ret2
    exact ⟨rfl,hb1⟩
  have h123' : ((s[i].toNat : Int) == 123) = false:=by rw [<- hbi.out];simpa using h123
  rw [if_neg h105,if_neg h108,if_neg h115,if_neg h60,if_neg h91,if_neg h63,if_neg h123] at hp
  cases hp
theorem zi3 {s t : ByteArray} (hs : s.size <= 4096) (ht : t.size <= 4096) : ∀ n,n <= 100 -> TellOK n s t
 | 0,_ => fun _ _ _ _ _ h => by simp [zac] at h
 | n + 1,hn => zz7 (zi3 hs ht n (by omega)) (zgk (zd1 hs n (by omega)).1 ((zd1 hs n (by omega)).2 s hs) hs (by omega)) hs ht (by omega)
end
section
open Go.RowKit
theorem zcg {s : ByteArray} {n i k : Nat} {ty : Ty} (h : zac true s n i = some (ty,k)) : bAt s i = ty.kind /\ ∃ n',n = n' + 1 /\
  (ty.kind = 60 -> zcw s (i + 1) = some (ty,k)) /\ (ty.kind = 91 \/ ty.kind = 63 -> ∃ k',zac true s n' (i + 1) = some (ty.in,k')) /\ (ty.kind = 63 -> ty.in.kind ≠ 63) /\
  (ty.kind = 123 -> ∃ k',zaz (zaj (zac true s n') (enc true s n') s) s (s.size - (i + 1)) (i + 1) [] = some (ty.fields,k')) /\ (ty.kind = 105 \/ ty.kind = 108 \/ ty.kind = 115 \/ ty.kind = 60 \/ ty.kind = 91 \/ ty.kind = 63 \/ ty.kind = 123):=by
 cases n with
 | zero => simp [zac] at h
 | succ n =>
  have his : i < s.size:=by have:=za8 true s _ _ _ _ h;omega
  rw [zac] at h
  split at h
  ·rename_i hb;cases h;exact ⟨hb,n,rfl,(fun h => by cases h),(fun h => by rcases h with h | h <;> cases h),(fun h => by cases h),(fun h => by cases h),.inl rfl⟩
  ·split at h
   ·rename_i hb;cases h;exact ⟨hb,n,rfl,(fun h => by cases h),(fun h => by rcases h with h | h <;> cases h),(fun h => by cases h),(fun h => by cases h),.inr (.inl rfl)⟩
   ·split at h
    ·rename_i hb;cases h;exact ⟨hb,n,rfl,(fun h => by cases h),(fun h => by rcases h with h | h <;> cases h),(fun h => by cases h),(fun h => by cases h),.inr (.inr (.inl rfl))⟩
    ·split at h
     ·rename_i hb
      rw [zfj s (i + 1) (by omega)] at h
      have hk:=(zim h).1
      rw [hb,hk]
      exact ⟨rfl,n,rfl,fun _ => h,(fun h => by omega),(fun h => by omega),(fun h => by omega),by omega⟩
     ·split at h
      ·rename_i hb
       unfold zbt at h
       split at h
       ·cases h
       ·rename_i t k' ht
        split at h
        ·cases h
         exact ⟨hb,n,rfl,(fun h => by cases h),fun _ => ⟨k',ht⟩,(fun h => by cases h),(fun h => by cases h),.inr (.inr (.inr (.inr (.inl rfl))))⟩
        ·cases h
      ·split at h
       ·rename_i hb
        unfold zbq at h
        split at h
        ·cases h
        ·rename_i t k' ht
         split at h
         ·cases h
         ·rename_i hne
          cases h
          exact ⟨hb,n,rfl,(fun h => by cases h),fun _ => ⟨_,ht⟩,fun _ => hne,(fun h => by cases h),.inr (.inr (.inr (.inr (.inr (.inl rfl)))))⟩
       ·split at h
        ·rename_i hb
         unfold pRec at h
         split at h
         ·cases h
         ·rename_i fs k' hfs
          cases h
          exact ⟨hb,n,rfl,(fun h => by cases h),(fun h => by rcases h with h | h <;> cases h),(fun h => by cases h),fun _ => ⟨_,hfs⟩,.inr (.inr (.inr (.inr (.inr (.inr rfl)))))⟩
        ·cases h
theorem ze0 {s : ByteArray} {a k : Nat} {ty : Ty} (ha : a <= s.size) (h : zcw s a = some (ty,k)) : ty.letters = s.extract a (zap isL s (s.size - a) a) /\ zap isL s (s.size - a) a = a + ty.letters.size /\ 1 <= ty.letters.size /\ ty.letters.size <= 8 /\ ty.op = (bAt s (a + ty.letters.size) == 43):=by
 obtain ⟨_,h2,h3⟩:=zim h
 have hle:=zce isL s (s.size - a) a
 have hsz : ty.letters.size = zap isL s (s.size - a) a - a:=by rw [h2,ByteArray.size_extract];omega
 unfold zcw at h
 simp only at h
 generalize hE : zap isL s (s.size - a) a = E at h hle hsz h2
 split at h
 ·cases h
 ·rename_i hc
  have he : E = a + ty.letters.size:=by omega
  refine ⟨h2,he,by omega,h3,?_⟩
  rw [<- he]
  split at h
  ·rename_i h43
   split at h
   ·simp only [Option.some.injEq,Prod.mk.injEq] at h;rw [<- h.1,h43];rfl
   ·cases h
  ·rename_i h43
   split at h
   ·simp only [Option.some.injEq,Prod.mk.injEq] at h;rw [<- h.1];simp [h43]
   ·cases h
theorem zwm {s : ByteArray} {i k : Nat} {ty : Ty} (hs : s.size <= 4096) (hi : i < s.size) (h : zcw s (i + 1) = some (ty,k)) (w : World) :
  Calls Tryz.prog 121 #[.string s,.int .i64 i] w fun e w' => e = .returned (.bool ty.op) /\ w = w':=by
 have _hs : s.size <= 9000000:=by omega
 obtain ⟨h1,h2,h3,h4,h5⟩:=ze0 (by omega) h
 have hl : ∀ w,Calls Tryz.prog 91 #[.string s,.int .i64 i] w fun e w' => e = .returned (.string ty.letters) /\ w = w':=fun w => by rw [h1];exact zam (zey s i w _hs hi)
 have hat : ∀ w,Calls Tryz.prog 93 #[.string s,.int .i64 ((i : Int) + 1 + (ty.letters.size : Int)),.int .u8 43] w fun e w' => e = .returned (.bool ty.op) /\ w = w':=fun w => by
  have:=zam (zah s ((i : Int) + 1 + (ty.letters.size : Int)) 43 w (by omega) _hs)
  rw [zjj (i:=i + 1 + ty.letters.size) (by omega),<- h5] at this;exact this
 clear h h1 h2 h5
 go_enter Tryz.func121,Tryz.ntmps121
 go_wp2_with (first | (go_at_call 91;refine (hl _).mono ?_;rintro e _ ⟨rfl,rfl⟩) | (go_at_call 93;refine (hat _).mono ?_;rintro e _ ⟨rfl,rfl⟩))
 go_ret
 exact ⟨rfl,rfl⟩
def sRet : Option ByteArray -> Value
 | some t => .tuple #[.string t,.bool true]
 | none => .tuple #[.string ByteArray.empty,.bool false]
theorem zyl {s : ByteArray} {i k : Nat} {ty : Ty} (hs : s.size <= 4096) (hi : i < s.size) (h : zcw s (i + 1) = some (ty,k)) (c : Nat) (hc : c < 256) (w : World) :
  Calls Tryz.prog 98 #[.int .u8 c,.string s,.int .i64 i] w fun e w' => e = .returned (sRet (if pOf ty.letters c < 0 then (if ty.op = true then some (ty.letters.extract 0 1) else none) else some (oneB c))) /\ Below w.heap.size w w':=by
 have _hs : s.size <= 9000000:=by omega
 have ho:=fun w => zwm hs hi h w
 obtain ⟨h1,h2,h3,h4,h5⟩:=ze0 (by omega) h
 have hl : ∀ w,Calls Tryz.prog 91 #[.string s,.int .i64 i] w fun e w' => e = .returned (.string ty.letters) /\ w = w':=fun w => by rw [h1];exact zam (zey s i w _hs hi)
 obtain ⟨L,hL⟩ : ∃ L,L = ty.letters:=⟨_,rfl⟩
 rw [<- hL] at h3 h4 hl ⊢
 obtain ⟨o,hO⟩ : ∃ o,o = ty.op:=⟨_,rfl⟩
 rw [<- hO] at ho ⊢
 have HP : Hid (pOf L c = za6 L c (L.size - 0) 0):=rfl
 obtain ⟨O,hOO⟩ : ∃ O,O = (if pOf L c < 0 then (if o = true then some (L.extract 0 1) else none) else some (oneB c) : Option ByteArray):=⟨_,rfl⟩
 rw [<- hOO]
 have HO : Hid (O = (if pOf L c < 0 then (if o = true then some (L.extract 0 1) else none) else some (oneB c) : Option ByteArray)):=hOO
 clear hOO
 clear h h1 h2 h5 hL hO
 go_enter Tryz.func98,Tryz.ntmps98
 go_wp2_with (first | (go_at_call 91;refine (hl _).mono ?_;rintro e _ ⟨rfl,rfl⟩) | (go_at_call 121;refine (ho _).mono ?_;rintro e _ ⟨rfl,rfl⟩))
 go_loop [10] (fun v => ∃ x : Nat,x <= L.size /\ v = .int .i64 x /\ Hid (pOf L c = za6 L c (L.size - x) x)) (fun v => L.size - (intOf v).toNat)
 case atStart => exact ⟨0,Nat.zero_le _,rfl,HP⟩
 case round =>
  obtain ⟨x,hx,rfl,hp⟩:=hrel
  by_cases hlt : x < L.size
  ·have hbx : Hid (bAt L x = L[x].toNat):=za1 L x hlt
   by_cases heq : L[x].toNat = c
   ·have heq' : ((L[x].toNat : Int) == (c : Int)) = true:=by simp [heq]
    have hr' : Hid (O = some (L.extract x (x + 1))):=by
     show _ = _
     rw [HO.out,zk6 L c x hp.out hlt (by rw [hbx.out,heq]),if_neg (by omega),zgj L x hlt,hbx.out,heq];rfl
    clear heq
    go_wp2_with fail
    go_ret2
    rw [hr'.out]
    exact ⟨rfl,Below.refl _ _⟩
   ·have heq' : ((L[x].toNat : Int) == (c : Int)) = false:=by simp;omega
    have hp2 : Hid (pOf L c = za6 L c (L.size - (x + 1)) (x + 1)):=zk7 L c x hp.out hlt (by rw [hbx.out];omega)
    go_wp2_with fail
    go_round
    case rel => exact ⟨x + 1,by omega,by go_num,hp2⟩
    case measure => simp [intOf];omega
  ·have hno : pOf L c = -1:=zk5 L c x hp.out hlt
   have h0 : (0 : Int) < (L.size : Int):=by omega
   cases o with
   | true =>
    have hr' : Hid (O = some (L.extract 0 1)):=by show _ = _;rw [HO.out,if_pos (by omega)];rfl
    clear hno
    go_wp2_with fail
    go_ret2
    rw [hr'.out]
    exact ⟨rfl,Below.refl _ _⟩
   | false =>
    have hr' : Hid (O = none):=by show _ = _;rw [HO.out,if_pos (by omega)];rfl
    clear hno
    go_wp2_with fail
    go_ret2
    rw [hr'.out]
    exact ⟨rfl,Below.refl _ _⟩
end
section
open Go.RowKit
def tyN : Nat -> Ty -> Prop
 | 0,_ => True
 | n + 1,ty => (ty.fields.map (·.1)).Nodup /\ (ty.kind = 91 \/ ty.kind = 63 -> tyN n ty.in) /\ ∀ f ∈ ty.fields,tyN n f.2.1
theorem zii {pf : Nat -> Option ((Nat × Ty × ByteArray) × Nat)} {s : ByteArray} {Q : (Nat × Ty × ByteArray) -> Prop} (hp : ∀ i f k,pf i = some (f,k) -> Q f) :
  ∀ (m a : Nat) (acc fs : List (Nat × Ty × ByteArray)) (k : Nat),zaz pf s m a acc = some (fs,k) -> (∀ f ∈ acc,Q f) -> (acc.map (·.1)).Nodup -> (∀ f ∈ fs,Q f) /\ (fs.map (·.1)).Nodup
 | 0,a,acc,fs,k,h,_,_ => by simp [zaz] at h
 | m + 1,a,acc,fs,k,h,hq,hn => by
  rw [zaz] at h
  split at h
  ·cases h
  ·rename_i f k' hf
   split at h
   ·cases h
   ·rename_i hany
    have hq' : ∀ g ∈ acc ++ [f],Q g:=fun g hg => by
     rcases List.mem_append.1 hg with hg | hg
     ·exact hq g hg
     ·rw [List.mem_singleton.1 hg];exact hp _ _ _ hf
    have hn' : ((acc ++ [f]).map (·.1)).Nodup:=by
     rw [List.map_append,List.nodup_append]
     refine ⟨hn,by simp,fun a ha b hb => ?_⟩
     obtain ⟨g,hg,rfl⟩:=List.mem_map.1 ha
     simp at hb
     subst hb
     intro he
     apply hany
     rw [List.any_eq_true]
     exact ⟨g,hg,by simp [he]⟩
    split at h
    ·cases h;exact ⟨hq',hn'⟩
    ·split at h
     ·exact zii hp m _ _ _ _ h hq' hn'
     ·cases h
theorem zlx {s : ByteArray} : ∀ (n i : Nat) (ty : Ty) (k : Nat),zac true s n i = some (ty,k) -> tyG n ty /\ tyN n ty
 | 0,i,ty,k,h => by simp [zac] at h
 | n + 1,i,ty,k,h => by
  have ih:=zlx (s:=s) n
  have his : i < s.size:=by have:=za8 true s _ _ _ _ h;omega
  obtain ⟨_,n',hn,h60,hin,hne,h123,hk⟩:=zcg h
  obtain rfl : n' = n:=by omega
  have hfs : (∀ f ∈ ty.fields,f.1 < 256 /\ tyG n' f.2.1 /\ tyN n' f.2.1) /\ (ty.fields.map (·.1)).Nodup:=by
   by_cases h3 : ty.kind = 123
   ·obtain ⟨k',hk'⟩:=h123 h3
    exact zii (Q:=fun f => f.1 < 256 /\ tyG n' f.2.1 /\ tyN n' f.2.1) (fun i f k hf => by
     have h256:=zk4 hf
     unfold zaj at hf
     split at hf
     ·split at hf
      ·cases hf
      ·rename_i t k' ht
       have h1:=ih _ _ _ ht
       split at hf
       ·split at hf
        ·cases hf
        ·cases hf;exact ⟨h256,h1.1,h1.2⟩
       ·cases hf;exact ⟨h256,h1.1,h1.2⟩
     ·cases hf) _ _ _ _ _ hk' (fun f hf => absurd hf List.not_mem_nil) (by simp)
   ·have : ty.fields = []:=by
     rw [zac] at h
     split at h
     ·cases h;rfl
     ·split at h
      ·cases h;rfl
      ·split at h
       ·cases h;rfl
       ·split at h
        ·rw [zfj s (i + 1) (by omega)] at h
         unfold zcw at h
         simp only at h
         split at h
         ·cases h
         ·split at h
          iterate 2
           ·split at h
            ·cases h;rfl
            ·cases h
        ·split at h
         ·unfold zbt at h
          split at h
          ·cases h
          ·split at h
           ·cases h;rfl
           ·cases h
         ·split at h
          ·unfold zbq at h
           split at h
           ·cases h
           ·split at h
            ·cases h
            ·cases h;rfl
          ·split at h
           ·unfold pRec at h
            split at h
            ·cases h
            ·cases h;exact absurd rfl h3
           ·cases h
    rw [this]
    exact ⟨fun f hf => absurd hf List.not_mem_nil,by simp⟩
  have hinn : ty.kind = 91 \/ ty.kind = 63 -> tyG n' ty.in /\ tyN n' ty.in:=fun h => by
   obtain ⟨k',hk'⟩:=hin h
   exact ih _ _ _ hk'
  refine ⟨⟨fun h6 j hj => ?_,hne,fun h => (hinn h).1,fun f hf => ⟨(hfs.1 f hf).1,(hfs.1 f hf).2.1⟩⟩,hfs.2,fun h => (hinn h).2,fun f hf => (hfs.1 f hf).2.2⟩
  have hr:=h60 h6
  obtain ⟨l1,l2,l3,l4,l5⟩:=ze0 (by omega) hr
  have hle:=zce isL s (s.size - (i + 1)) (i + 1)
  have hb : ∀ q,q < ty.letters.size -> bAt ty.letters q = bAt s (i + 1 + q):=fun q hq => by
   rw [l1,zbs s (i + 1) _ q (by omega) (by omega)]
  constructor
  ·rw [hb j hj]
   exact zef isL s (s.size - (i + 1)) (i + 1) (i + 1 + j) (by omega) (by omega)
  ·intro q hq he
   unfold zcw at hr
   simp only at hr
   split at hr
   ·cases hr
   ·rename_i hc
    apply hc
    refine .inr (.inr ?_)
    rw [<- l1]
    exact zi7 hq hj he.symm
end
end Go.Proofs.YtkkekopomiehlaaGreat
