import Derived.Test.YtkkekopomiehlaaGreatCDec11
set_option linter.unusedVariables false
set_option linter.unusedSimpArgs false
set_option maxHeartbeats 40000000
set_option maxRecDepth 4000
namespace Go.Proofs.YtkkekopomiehlaaGreat
section
open Go.RowKit
def zhd (n : Nat) (s : ByteArray) : Prop:=∀ (i : Nat) (w : World),i < s.size -> s.size <= i + 1 + n ->
 Calls Tryz.prog 94 #[.string s,.int .i64 i] w fun e w' => GRet w.heap.size n s (zaz (zaj (zac true s n) (enc true s n) s) s (s.size - (i + 1)) (i + 1) []) e w' /\ Below w.heap.size w w'
theorem zgk {n : Nat} {s : ByteArray} (IE : EndsOK n s) (IL : LayOK n s s) (hs : s.size <= 4096) (hn : n <= 100) : zhd n s:=fun i w h1 h2 => by
 rw [zuk];exact zuj IE IL hs hn i w h1 h2
theorem zgz {pf : Nat -> Option ((Nat × Ty × ByteArray) × Nat)} {s : ByteArray} (hp : ∀ a f k,pf a = some (f,k) -> a < k /\ k <= s.size) : ∀ {m a k : Nat} {acc fs : List (Nat × Ty × ByteArray)},acc.length <= a -> zaz pf s m a acc = some (fs,k) -> 0 < fs.length /\ fs.length <= k
 | 0,a,k,acc,fs,_,h => by simp [zaz] at h
 | m + 1,a,k,acc,fs,ha,h => by
  rw [zaz] at h
  split at h
  ·cases h
  ·rename_i f k' hx
   have:=hp _ _ _ hx
   split at h
   ·cases h
   ·split at h
    ·simp only [Option.some.injEq,Prod.mk.injEq] at h
     obtain ⟨rfl,rfl⟩:=h
     simp;omega
    ·split at h
     ·exact zgz hp (by simp;omega) h
     ·cases h
theorem zuc {st : Bool} {t : ByteArray} {n : Nat} {ty : Ty} {j : Nat} (h : t.size <= j) : enc st t n ty j = none:=by
 rcases hx : enc st t n ty j with _ | ⟨d,k⟩
 ·rfl
 ·have:=zbo hx;omega
theorem zim {s : ByteArray} {a k : Nat} {ty : Ty} (h : zcw s a = some (ty,k)) : ty.kind = 60 /\ ty.letters = s.extract a (zap isL s (s.size - a) a) /\ ty.letters.size <= 8:=by
 unfold zcw at h
 simp only at h
 have hle:=zce isL s (s.size - a) a
 generalize hE : zap isL s (s.size - a) a = E at h hle
 split at h
 ·cases h
 ·rename_i hc
  have hb : (s.extract a E).size <= 8:=by rw [ByteArray.size_extract];omega
  split at h
  iterate 2
   ·split at h
    ·simp only [Option.some.injEq,Prod.mk.injEq] at h;rw [<- h.1];exact ⟨rfl,rfl,hb⟩
    ·cases h
set_option maxRecDepth 10000 in
theorem zva {n : Nat} {s t : ByteArray} (IL : LayOK n s t) (IF : zhd n s) (hs : s.size <= 4096) (ht : t.size <= 4096) (hn : n <= 100) : LayOK (n + 1) s t:=by
 intro i j w ty k hp hi hj
 have _hs : t.size <= 9000000:=by omega
 have hik:=za8 true s _ _ _ _ hp
 have his : i < s.size:=by omega
 have hbi : Hid (bAt s i = s[i].toNat):=za1 s i his
 by_cases hjt : t.size <= j
 ·rw [zuc hjt]
  clear hp
  go_enter Tryz.func115,Tryz.ntmps115
  go_wp2_with fail
  go_ret2
  exact ⟨⟨ByteArray.empty,Nat.zero_le _,rfl⟩,Below.refl _ _⟩
 ·have hjt' : j < t.size:=by omega
  have hbj : Hid (bAt t j = t[j].toNat):=za1 t j hjt'
  rw [zac] at hp
  by_cases h105 : bAt s i = 105
  ·have h105' : ((s[i].toNat : Int) == 105) = true:=by rw [<- hbi.out];simp [h105]
   rw [if_pos h105] at hp
   have hk : ty.kind = 105:=by simp only [Option.some.injEq,Prod.mk.injEq] at hp;rw [<- hp.1];rfl
   have hr' : Hid (enc true t (n + 1) ty j = za3 true (-2147483648) 2147483647 t j):=by show _ = _;rw [enc,if_pos hk]
   have hjt2:=hjt'
   cases hx : za3 true (-2147483648) 2147483647 t j with
   | none =>
    have hcall : ∀ w,Calls Tryz.prog 127 #[.string t,.int .i64 j,.int .i64 (-2147483648),.int .i64 2147483647] w fun e w' => e = .returned (.tuple #[.string ByteArray.empty,.int .i64 (-1)]) /\ Below w.heap.size w w':=fun w => by have:=zh6 t j (-2147483648) 2147483647 w _hs hjt' (by omega) (by omega);rw [zh5 (by omega) (by omega) hjt2,hx] at this;exact this
    rw [hr'.out,hx]
    clear hx h105 hp hk
    go_enter Tryz.func115,Tryz.ntmps115
    go_wp2_with (go_at_call 127;refine (hcall _).mono ?_;rintro e w1 ⟨rfl,hb1⟩)
    go_ret2
    exact ⟨⟨ByteArray.empty,Nat.zero_le _,rfl⟩,hb1⟩
   | some p =>
    obtain ⟨d,m⟩:=p
    have hcall : ∀ w,Calls Tryz.prog 127 #[.string t,.int .i64 j,.int .i64 (-2147483648),.int .i64 2147483647] w fun e w' => e = .returned (.tuple #[.string d,.int .i64 m]) /\ Below w.heap.size w w':=fun w => by have:=zh6 t j (-2147483648) 2147483647 w _hs hjt' (by omega) (by omega);rw [zh5 (by omega) (by omega) hjt2,hx] at this;exact this
    rw [hr'.out,hx]
    clear hx h105 hp hk
    go_enter Tryz.func115,Tryz.ntmps115
    go_wp2_with (go_at_call 127;refine (hcall _).mono ?_;rintro e w1 ⟨rfl,hb1⟩)
    go_ret2
    exact ⟨rfl,hb1⟩
  have h105' : ((s[i].toNat : Int) == 105) = false:=by rw [<- hbi.out];simpa using h105
  by_cases h108 : bAt s i = 108
  ·have h108' : ((s[i].toNat : Int) == 108) = true:=by rw [<- hbi.out];simp [h108]
   rw [if_neg h105,if_pos h108] at hp
   have hk : ty.kind = 108:=by simp only [Option.some.injEq,Prod.mk.injEq] at hp;rw [<- hp.1];rfl
   have hr' : Hid (enc true t (n + 1) ty j = za3 true (-1000000000000000) 1000000000000000 t j):=by show _ = _;rw [enc,if_neg (by omega),if_pos hk]
   have hjt2:=hjt'
   cases hx : za3 true (-1000000000000000) 1000000000000000 t j with
   | none =>
    have hcall : ∀ w,Calls Tryz.prog 127 #[.string t,.int .i64 j,.int .i64 (-1000000000000000),.int .i64 1000000000000000] w fun e w' => e = .returned (.tuple #[.string ByteArray.empty,.int .i64 (-1)]) /\ Below w.heap.size w w':=fun w => by have:=zh6 t j (-1000000000000000) 1000000000000000 w _hs hjt' (by omega) (by omega);rw [zh5 (by omega) (by omega) hjt2,hx] at this;exact this
    rw [hr'.out,hx]
    clear hx h105 h108 hp hk
    go_enter Tryz.func115,Tryz.ntmps115
    go_wp2_with (go_at_call 127;refine (hcall _).mono ?_;rintro e w1 ⟨rfl,hb1⟩)
    go_ret2
    exact ⟨⟨ByteArray.empty,Nat.zero_le _,rfl⟩,hb1⟩
   | some p =>
    obtain ⟨d,m⟩:=p
    have hcall : ∀ w,Calls Tryz.prog 127 #[.string t,.int .i64 j,.int .i64 (-1000000000000000),.int .i64 1000000000000000] w fun e w' => e = .returned (.tuple #[.string d,.int .i64 m]) /\ Below w.heap.size w w':=fun w => by have:=zh6 t j (-1000000000000000) 1000000000000000 w _hs hjt' (by omega) (by omega);rw [zh5 (by omega) (by omega) hjt2,hx] at this;exact this
    rw [hr'.out,hx]
    clear hx h105 h108 hp hk
    go_enter Tryz.func115,Tryz.ntmps115
    go_wp2_with (go_at_call 127;refine (hcall _).mono ?_;rintro e w1 ⟨rfl,hb1⟩)
    go_ret2
    exact ⟨rfl,hb1⟩
  have h108' : ((s[i].toNat : Int) == 108) = false:=by rw [<- hbi.out];simpa using h108
  by_cases h115 : bAt s i = 115
  ·have h115' : ((s[i].toNat : Int) == 115) = true:=by rw [<- hbi.out];simp [h115]
   rw [if_neg h105,if_neg h108,if_pos h115] at hp
   have hk : ty.kind = 115:=by simp only [Option.some.injEq,Prod.mk.injEq] at hp;rw [<- hp.1];rfl
   have hr' : Hid (enc true t (n + 1) ty j = zbh t j):=by show _ = _;rw [enc,if_neg (by omega),if_neg (by omega),if_pos hk]
   cases hx : zbh t j with
   | none =>
    have hcall : ∀ w,Calls Tryz.prog 128 #[.string t,.int .i64 j] w fun e w' => e = .returned (.tuple #[.string ByteArray.empty,.int .i64 (-1)]) /\ Below w.heap.size w w':=fun w => by have:=zol t j w _hs hjt';rw [hx] at this;exact this
    rw [hr'.out,hx]
    clear hx h105 h108 h115 hp hk
    go_enter Tryz.func115,Tryz.ntmps115
    go_wp2_with (go_at_call 128;refine (hcall _).mono ?_;rintro e w1 ⟨rfl,hb1⟩)
    go_ret2
    exact ⟨⟨ByteArray.empty,Nat.zero_le _,rfl⟩,hb1⟩
   | some p =>
    obtain ⟨d,m⟩:=p
    have hcall : ∀ w,Calls Tryz.prog 128 #[.string t,.int .i64 j] w fun e w' => e = .returned (.tuple #[.string d,.int .i64 m]) /\ Below w.heap.size w w':=fun w => by have:=zol t j w _hs hjt';rw [hx] at this;exact this
    rw [hr'.out,hx]
    clear hx h105 h108 h115 hp hk
    go_enter Tryz.func115,Tryz.ntmps115
    go_wp2_with (go_at_call 128;refine (hcall _).mono ?_;rintro e w1 ⟨rfl,hb1⟩)
    go_ret2
    exact ⟨rfl,hb1⟩
  have h115' : ((s[i].toNat : Int) == 115) = false:=by rw [<- hbi.out];simpa using h115
  by_cases h60 : bAt s i = 60
  ·have h60' : ((s[i].toNat : Int) == 60) = true:=by rw [<- hbi.out];simp [h60]
   rw [if_neg h105,if_neg h108,if_neg h115,if_pos h60,zfj s (i + 1) (by omega)] at hp
   obtain ⟨hk,hlet,hl8⟩:=zim hp
   have hr' : enc true t (n + 1) ty j = zcc ty.letters t j:=by rw [enc,if_neg (by omega),if_neg (by omega),if_neg (by omega),if_pos hk];rfl
   rw [hr']
   obtain ⟨l,hl⟩ : ∃ l,l = ty.letters:=⟨_,rfl⟩
   rw [<- hl] at hlet hl8 ⊢
   have hcall : ∀ w,Calls Tryz.prog 91 #[.string s,.int .i64 i] w fun e w' => e = .returned (.string l) /\ w = w':=fun w => by rw [hlet];exact zam (zey s i w (by omega) his)
   clear h105 h108 h115 h60 hp hk hr' hl hlet hik
   go_enter Tryz.func115,Tryz.ntmps115
   go_wp2_with (go_at_call 91;refine (hcall _).mono ?_;rintro e _ ⟨rfl,rfl⟩)
   go_loopw [11] (fun v wr => ∃ x : Nat,x <= l.size /\ v = .int .i64 x /\ Hid (pOf l (bAt t j) = za6 l (bAt t j) (l.size - x) x) /\ Below w.heap.size w wr) (fun v _ => l.size - (intOf v).toNat)
   case atStart => exact ⟨0,Nat.zero_le _,rfl,rfl,Below.refl _ _⟩
   case round =>
    obtain ⟨x,hx,rfl,hpf,hb⟩:=hrel
    by_cases hlt : x < l.size
    ·have hbx : Hid (bAt l x = l[x].toNat):=za1 l x hlt
     by_cases he : (l[x].toNat : Int) = t[j].toNat
     ·have he' : ((l[x].toNat : Int) == (t[j].toNat : Int)) = true:=by simpa using he
      have hr : Hid (zcc l t j = some (oneB x,j + 1)):=by
       show _ = _;unfold zcc;rw [zk6 l (bAt t j) x hpf.out hlt (by rw [hbx.out,hbj.out];exact he),if_neg (by omega)];rfl
      clear he
      go_wp2_with fail
      go_quiet (fail)
      go_wp2_with ((go_at_call 95;refine (zcv x _ (by omega)).mono ?_;rintro e wo ⟨rfl,hbo⟩))
      go_ret2
      rw [hr.out]
      exact ⟨rfl,(below_drewN hb _).trans (hbo.mono (by have:=hb.size;simp;omega))⟩
     ·have he' : ((l[x].toNat : Int) == (t[j].toNat : Int)) = false:=by simpa using he
      have hpf2 : Hid (pOf l (bAt t j) = za6 l (bAt t j) (l.size - (x + 1)) (x + 1)):=zk7 l (bAt t j) x hpf.out hlt (by rw [hbx.out,hbj.out];exact he)
      clear he
      go_wp2_with fail
      go_quiet (fail)
      go_wp2_with fail
      go_roundw
      case rel => exact ⟨x + 1,by omega,by go_num,hpf2,below_drewN hb _⟩
      case measure => simp [intOf];omega
    ·have hr : Hid (zcc l t j = none):=by show _ = _;unfold zcc;rw [zk5 l (bAt t j) x hpf.out hlt,if_pos (by omega)]
     go_wp2_with fail
     go_ret2
     rw [hr.out]
     exact ⟨⟨ByteArray.empty,Nat.zero_le _,rfl⟩,hb⟩
  have h60' : ((s[i].toNat : Int) == 60) = false:=by rw [<- hbi.out];simpa using h60
  by_cases h91 : bAt s i = 91
  ·have h91' : ((s[i].toNat : Int) == 91) = true:=by rw [<- hbi.out];simp [h91]
   rw [if_neg h105,if_neg h108,if_neg h115,if_neg h60,if_pos h91] at hp
   unfold zbt at hp
   rcases hq : zac true s n (i + 1) with _ | ⟨t',k'⟩
   ·rw [hq] at hp;cases hp
   rw [hq] at hp
   simp only at hp
   by_cases h93 : bAt s k' = 93
   ·rw [if_pos h93] at hp
    simp only [Option.some.injEq,Prod.mk.injEq] at hp
    obtain ⟨rfl,rfl⟩:=hp
    have hr' : Hid (enc true t (n + 1) ⟨91,ByteArray.empty,false,[t'],[]⟩ j = zbk (enc true t n t') t j):=rfl
    cases hx : zbk (enc true t n t') t j with
    | none =>
     have hcall : ∀ w,Calls Tryz.prog 129 #[.string s,.int .i64 (i + 1 : Nat),.string t,.int .i64 j] w fun e w' => e = .returned (.tuple #[.string ByteArray.empty,.int .i64 (-1)]) /\ Below w.heap.size w w':=fun w => by have:=zoj IL ht hn (i + 1) j w hq (by omega) hjt';rw [hx] at this;exact this
     rw [hr'.out,hx]
     clear hx h105 h108 h115 h60 h91 hq h93
     go_enter Tryz.func115,Tryz.ntmps115
     go_wp2_with (go_at_call 129;refine (hcall _).mono ?_;rintro e w1 ⟨rfl,hb1⟩)
     go_ret2
     exact ⟨⟨ByteArray.empty,Nat.zero_le _,rfl⟩,hb1⟩
    | some p =>
     obtain ⟨d,m⟩:=p
     have hcall : ∀ w,Calls Tryz.prog 129 #[.string s,.int .i64 (i + 1 : Nat),.string t,.int .i64 j] w fun e w' => e = .returned (.tuple #[.string d,.int .i64 m]) /\ Below w.heap.size w w':=fun w => by have:=zoj IL ht hn (i + 1) j w hq (by omega) hjt';rw [hx] at this;exact this
     rw [hr'.out,hx]
     clear hx h105 h108 h115 h60 h91 hq h93
     go_enter Tryz.func115,Tryz.ntmps115
     go_wp2_with (go_at_call 129;refine (hcall _).mono ?_;rintro e w1 ⟨rfl,hb1⟩)
     go_ret2
     exact ⟨rfl,hb1⟩
   ·rw [if_neg h93] at hp;cases hp
  have h91' : ((s[i].toNat : Int) == 91) = false:=by rw [<- hbi.out];simpa using h91
  by_cases h63 : bAt s i = 63
  ·have h63' : ((s[i].toNat : Int) == 63) = true:=by rw [<- hbi.out];simp [h63]
   rw [if_neg h105,if_neg h108,if_neg h115,if_neg h60,if_neg h91,if_pos h63] at hp
   unfold zbq at hp
   rcases hq : zac true s n (i + 1) with _ | ⟨t',k'⟩
   ·rw [hq] at hp;cases hp
   rw [hq] at hp
   simp only at hp
   by_cases hm : t'.kind = 63
   ·rw [if_pos hm] at hp;cases hp
   rw [if_neg hm] at hp
   simp only [Option.some.injEq,Prod.mk.injEq] at hp
   obtain ⟨rfl,rfl⟩:=hp
   have hr' : enc true t (n + 1) ⟨63,ByteArray.empty,false,[t'],[]⟩ j = zbn (enc true t n t') t j:=rfl
   rw [hr']
   by_cases h95 : bAt t j = 95
   ·have h95' : ((t[j].toNat : Int) == 95) = true:=by rw [<- hbj.out];simp [h95]
    have hr : Hid (zbn (enc true t n t') t j = some (oneB 0,j + 1)):=by show _ = _;unfold zbn;rw [if_pos h95]
    clear h105 h108 h115 h60 h91 h63 hq hm hr' h95
    go_enter Tryz.func115,Tryz.ntmps115
    go_wp2_with ((go_at_call 95;refine (zcv 0 _ (by omega)).mono ?_;rintro e wo ⟨rfl,hbo⟩))
    go_ret2
    rw [hr.out]
    exact ⟨rfl,hbo⟩
   ·have h95' : ((t[j].toNat : Int) == 95) = false:=by rw [<- hbj.out];simpa using h95
    cases hx : enc true t n t' j with
    | none =>
     have hr : Hid (zbn (enc true t n t') t j = none):=by show _ = _;unfold zbn;rw [if_neg h95,hx]
     have hcall:=fun w => IL.no w hq (show s.size <= i + 1 + n by omega) (show j <= t.size by omega) hx
     have hone : (oneB 1).size = 1:=rfl
     clear h105 h108 h115 h60 h91 h63 hq hm hr' h95 hx
     go_enter Tryz.func115,Tryz.ntmps115
     go_wp2_with (first | (go_at_call 95;refine (zcv 1 _ (by omega)).mono ?_;rintro e wo ⟨rfl,hbo⟩) | (go_at_call 115;refine (hcall _).mono ?_;rintro e w1 ⟨d',hd',rfl,hb1⟩))
     go_ret2
     rw [hr.out]
     exact ⟨⟨oneB 1 ++ d',by rw [ByteArray.size_append,hone];omega,rfl⟩,hb1.trans (hbo.mono hb1.size)⟩
    | some p =>
     obtain ⟨d,m⟩:=p
     have hr : Hid (zbn (enc true t n t') t j = some (oneB 1 ++ d,m)):=by show _ = _;unfold zbn;rw [if_neg h95,hx]
     have hcall:=fun w => IL.yes w hq (show s.size <= i + 1 + n by omega) (show j <= t.size by omega) hx
     obtain ⟨e1,e2,e3⟩:=zbo hx
     have hds:=zcr e3 hn (by omega)
     have hone : (oneB 1).size = 1:=rfl
     clear h105 h108 h115 h60 h91 h63 hq hm hr' h95 hx e3
     go_enter Tryz.func115,Tryz.ntmps115
     go_wp2_with (first | (go_at_call 95;refine (zcv 1 _ (by omega)).mono ?_;rintro e wo ⟨rfl,hbo⟩) | (go_at_call 115;refine (hcall _).mono ?_;rintro e w1 ⟨rfl,hb1⟩))
     go_ret2
     rw [hr.out]
     exact ⟨rfl,hb1.trans (hbo.mono hb1.size)⟩
  have h63' : ((s[i].toNat : Int) == 63) = false:=by rw [<- hbi.out];simpa using h63
  by_cases h123 : bAt s i = 123
  ·have h123' : ((s[i].toNat : Int) == 123) = true:=by rw [<- hbi.out];simp [h123]
   rw [if_neg h105,if_neg h108,if_neg h115,if_neg h60,if_neg h91,if_neg h63,if_pos h123] at hp
   unfold pRec at hp
   rcases hq : zaz (zaj (zac true s n) (enc true s n) s) s (s.size - (i + 1)) (i + 1) [] with _ | ⟨fs,k'⟩
   ·rw [hq] at hp;cases hp
   rw [hq] at hp
   simp only [Option.some.injEq,Prod.mk.injEq] at hp
   obtain ⟨rfl,rfl⟩:=hp
   have hfb:=fun a f k (h : zaj (zac true s n) (enc true s n) s a = some (f,k)) => zih (za8 true s n) (fun ty j d k h => ⟨(zbo h).1,(zbo h).2.1⟩) h
   have hlen:=zgz hfb (by simp) hq
   have hkk:=(zgy hfb hq).2
   have hF:=fun w => IF i w his (by omega)
   rw [hq] at hF
   have hr' : Hid (enc true t (n + 1) ⟨123,ByteArray.empty,false,[],fs⟩ j = zax (enc true t n) t fs 123 j ByteArray.empty):=rfl
   cases hx : zax (enc true t n) t fs 123 j ByteArray.empty with
   | none =>
    have hcall : ∀ w,Calls Tryz.prog 130 #[.string s,.int .i64 i,.string t,.int .i64 j] w fun e w' => e = .returned (.tuple #[.string ByteArray.empty,.int .i64 (-1)]) /\ Below w.heap.size w w':=fun w => by have:=zok IL ht hn i j hlen.1 (by omega) hF w hjt';rw [hx] at this;exact this
    rw [hr'.out,hx]
    clear hx h105 h108 h115 h60 h91 h63 h123 hq hF hfb
    go_enter Tryz.func115,Tryz.ntmps115
    go_wp2_with (go_at_call 130;refine (hcall _).mono ?_;rintro e w1 ⟨rfl,hb1⟩)
    go_ret2
    exact ⟨⟨ByteArray.empty,Nat.zero_le _,rfl⟩,hb1⟩
   | some p =>
    obtain ⟨d,m⟩:=p
    have hcall : ∀ w,Calls Tryz.prog 130 #[.string s,.int .i64 i,.string t,.int .i64 j] w fun e w' => e = .returned (.tuple #[.string d,.int .i64 m]) /\ Below w.heap.size w w':=fun w => by have:=zok IL ht hn i j hlen.1 (by omega) hF w hjt';rw [hx] at this;exact this
    rw [hr'.out,hx]
    clear hx h105 h108 h115 h60 h91 h63 h123 hq hF hfb
    go_enter Tryz.func115,Tryz.ntmps115
    go_wp2_with (go_at_call 130;refine (hcall _).mono ?_;rintro e w1 ⟨rfl,hb1⟩)
    go_ret2
    exact ⟨rfl,hb1⟩
  have h123' : ((s[i].toNat : Int) == 123) = false:=by rw [<- hbi.out];simpa using h123
  rw [if_neg h105,if_neg h108,if_neg h115,if_neg h60,if_neg h91,if_neg h63,if_neg h123] at hp
  cases hp
end
section
open Go.RowKit
theorem znv {s : ByteArray} (hs : s.size <= 4096) (i : Nat) (w : World) (hi : s.size <= i) (hi2 : i <= s.size + 1) :
  Calls Tryz.prog 75 #[.string s,.int .i64 i] w fun e w' => e = .returned (.int .i64 (-1)) /\ Below w.heap.size w w':=by
 go_enter Tryz.func75,Tryz.ntmps75
 go_wp2_with fail
 go_ret
 exact ⟨rfl,Below.refl _ _⟩
set_option maxRecDepth 10000 in
theorem zue {n : Nat} {s : ByteArray} (IE : EndsOK n s) (IF : zhd n s) (hs : s.size <= 4096) (hn : n <= 100) : EndsOK (n + 1) s:=by
 intro i w hi hi2
 have _hs : s.size <= 9000000:=by omega
 by_cases his : s.size <= i
 ·rcases hx : zac true s (n + 1) i with _ | ⟨ty,k⟩
  ·exact znv hs i w his hi2
  ·have:=za8 true s _ _ _ _ hx;omega
 ·have his' : i < s.size:=by omega
  have hbi : Hid (bAt s i = s[i].toNat):=za1 s i his'
  rw [zac]
  by_cases h105 : bAt s i = 105
  ·have h105' : ((s[i].toNat : Int) == 105) = true:=by rw [<- hbi.out];simp [h105]
   rw [if_pos h105]
   clear h105 
   go_enter Tryz.func75,Tryz.ntmps75
   go_wp2_with fail
   go_ret
   exact ⟨rfl,Below.refl _ _⟩
  have h105' : ((s[i].toNat : Int) == 105) = false:=by rw [<- hbi.out];simpa using h105
  by_cases h108 : bAt s i = 108
  ·have h108' : ((s[i].toNat : Int) == 108) = true:=by rw [<- hbi.out];simp [h108]
   rw [if_neg h105,if_pos h108]
   clear h105 h108 
   go_enter Tryz.func75,Tryz.ntmps75
   go_wp2_with fail
   go_ret
   exact ⟨rfl,Below.refl _ _⟩
  have h108' : ((s[i].toNat : Int) == 108) = false:=by rw [<- hbi.out];simpa using h108
  by_cases h115 : bAt s i = 115
  ·have h115' : ((s[i].toNat : Int) == 115) = true:=by rw [<- hbi.out];simp [h115]
   rw [if_neg h105,if_neg h108,if_pos h115]
   clear h105 h108 h115 
   go_enter Tryz.func75,Tryz.ntmps75
   go_wp2_with fail
   go_ret
   exact ⟨rfl,Below.refl _ _⟩
  have h115' : ((s[i].toNat : Int) == 115) = false:=by rw [<- hbi.out];simpa using h115
  by_cases h60 : bAt s i = 60
  ·have h60' : ((s[i].toNat : Int) == 60) = true:=by rw [<- hbi.out];simp [h60]
   rw [if_neg h105,if_neg h108,if_neg h115,if_pos h60,zfj s (i + 1) (by omega)]
   obtain ⟨E,hE⟩ : ∃ E,E = zap isL s (s.size - (i + 1)) (i + 1):=⟨_,rfl⟩
   have hle:=zce isL s (s.size - (i + 1)) (i + 1)
   rw [<- hE] at hle
   obtain ⟨hle1,hle2⟩:=hle
   have hP : zcw s (i + 1) = if E - (i + 1) < 1 \/ 8 < E - (i + 1) \/ tw (s.extract (i + 1) E) = true then none else if bAt s E = 43 then (if bAt s (E + 1) = 62 then some (⟨60,s.extract (i + 1) E,true,[],[]⟩,E + 2) else none) else if bAt s E = 62 then some (⟨60,s.extract (i + 1) E,false,[],[]⟩,E + 1) else none:=by rw [hE];rfl
   have hlc : ∀ w,Calls Tryz.prog 91 #[.string s,.int .i64 i] w fun e w' => e = .returned (.string (s.extract (i + 1) E)) /\ w = w':=fun w => by rw [hE];exact zam (zey s i w _hs his')
   rw [hP]
   clear h105 h108 h115 h60 hP hE
   obtain ⟨L,rfl⟩ : ∃ L,E = i + 1 + L:=⟨E - (i + 1),by omega⟩
   have hsz : (s.extract (i + 1) (i + 1 + L)).size = L:=by rw [size_extract s (i + 1) (i + 1 + L) hle1 (by omega)];omega
   have hLs : i + 1 + L <= s.size:=by omega
   clear hle1 hle2
   by_cases h43 : bAt s (i + 1 + L) = 43
   ·have h43' : atB s ((i : Int) + 1 + (L : Int)) 43 = true:=zbe (i:=i + 1 + L) (by omega) h43
    by_cases hA : L < 1
    ·rw [if_pos (by left;omega)]
     clear h43
     go_enter Tryz.func75,Tryz.ntmps75
     go_wp2_with (first | (go_at_call 93;refine (zam (zah _ _ _ _ (by omega) _hs)).mono ?_;rintro e _ ⟨rfl,rfl⟩) | (go_at_call 91;refine (hlc _).mono ?_;rintro e _ ⟨rfl,rfl⟩) | (go_at_call 92;refine (zcf _ _ (by rw [hsz];omega)).mono ?_;rintro e wt ⟨rfl,hbt⟩))
     go_ret
     exact ⟨rfl,hbt⟩
    ·by_cases hB : 8 < L
     ·rw [if_pos (by right;left;omega)]
      clear h43
      go_enter Tryz.func75,Tryz.ntmps75
      go_wp2_with (first | (go_at_call 93;refine (zam (zah _ _ _ _ (by omega) _hs)).mono ?_;rintro e _ ⟨rfl,rfl⟩) | (go_at_call 91;refine (hlc _).mono ?_;rintro e _ ⟨rfl,rfl⟩) | (go_at_call 92;refine (zcf _ _ (by rw [hsz];omega)).mono ?_;rintro e wt ⟨rfl,hbt⟩))
      go_ret
      exact ⟨rfl,hbt⟩
     ·cases htw : tw (s.extract (i + 1) (i + 1 + L)) with
      | true =>
       rw [if_pos (.inr (.inr rfl))]
       clear h43
       go_enter Tryz.func75,Tryz.ntmps75
       go_wp2_with (first | (go_at_call 93;refine (zam (zah _ _ _ _ (by omega) _hs)).mono ?_;rintro e _ ⟨rfl,rfl⟩) | (go_at_call 91;refine (hlc _).mono ?_;rintro e _ ⟨rfl,rfl⟩) | (go_at_call 92;refine (zcf _ _ (by rw [hsz];omega)).mono ?_;rintro e wt ⟨rfl,hbt⟩))
       go_ret
       exact ⟨rfl,hbt⟩
      | false =>
       rw [if_neg (by rintro (h | h | h);omega;omega;cases h),if_pos h43]
       by_cases h62 : bAt s (i + 1 + L + 1) = 62
       ·have h62' : atB s ((i : Int) + 1 + (L : Int) + 1) 62 = true:=zbe (i:=i + 1 + L + 1) (by omega) h62
        rw [if_pos h62]
        clear h43 h62
        go_enter Tryz.func75,Tryz.ntmps75
        go_wp2_with (first | (go_at_call 93;refine (zam (zah _ _ _ _ (by omega) _hs)).mono ?_;rintro e _ ⟨rfl,rfl⟩) | (go_at_call 91;refine (hlc _).mono ?_;rintro e _ ⟨rfl,rfl⟩) | (go_at_call 92;refine (zcf _ _ (by rw [hsz];omega)).mono ?_;rintro e wt ⟨rfl,hbt⟩))
        go_ret
        exact ⟨zcx (by show _ = ((_ : Nat) : Int);omega),hbt⟩
       ·have h62' : atB s ((i : Int) + 1 + (L : Int) + 1) 62 = false:=zbb (i:=i + 1 + L + 1) (by omega) h62
        rw [if_neg h62]
        clear h43 h62
        go_enter Tryz.func75,Tryz.ntmps75
        go_wp2_with (first | (go_at_call 93;refine (zam (zah _ _ _ _ (by omega) _hs)).mono ?_;rintro e _ ⟨rfl,rfl⟩) | (go_at_call 91;refine (hlc _).mono ?_;rintro e _ ⟨rfl,rfl⟩) | (go_at_call 92;refine (zcf _ _ (by rw [hsz];omega)).mono ?_;rintro e wt ⟨rfl,hbt⟩))
        go_ret
        exact ⟨rfl,hbt⟩
   ·have h43' : atB s ((i : Int) + 1 + (L : Int)) 43 = false:=zbb (i:=i + 1 + L) (by omega) h43
    by_cases hA : L < 1
    ·rw [if_pos (by left;omega)]
     clear h43
     go_enter Tryz.func75,Tryz.ntmps75
     go_wp2_with (first | (go_at_call 93;refine (zam (zah _ _ _ _ (by omega) _hs)).mono ?_;rintro e _ ⟨rfl,rfl⟩) | (go_at_call 91;refine (hlc _).mono ?_;rintro e _ ⟨rfl,rfl⟩) | (go_at_call 92;refine (zcf _ _ (by rw [hsz];omega)).mono ?_;rintro e wt ⟨rfl,hbt⟩))
     go_ret
     exact ⟨rfl,hbt⟩
    ·by_cases hB : 8 < L
     ·rw [if_pos (by right;left;omega)]
      clear h43
      go_enter Tryz.func75,Tryz.ntmps75
      go_wp2_with (first | (go_at_call 93;refine (zam (zah _ _ _ _ (by omega) _hs)).mono ?_;rintro e _ ⟨rfl,rfl⟩) | (go_at_call 91;refine (hlc _).mono ?_;rintro e _ ⟨rfl,rfl⟩) | (go_at_call 92;refine (zcf _ _ (by rw [hsz];omega)).mono ?_;rintro e wt ⟨rfl,hbt⟩))
      go_ret
      exact ⟨rfl,hbt⟩
     ·cases htw : tw (s.extract (i + 1) (i + 1 + L)) with
      | true =>
       rw [if_pos (.inr (.inr rfl))]
       clear h43
       go_enter Tryz.func75,Tryz.ntmps75
       go_wp2_with (first | (go_at_call 93;refine (zam (zah _ _ _ _ (by omega) _hs)).mono ?_;rintro e _ ⟨rfl,rfl⟩) | (go_at_call 91;refine (hlc _).mono ?_;rintro e _ ⟨rfl,rfl⟩) | (go_at_call 92;refine (zcf _ _ (by rw [hsz];omega)).mono ?_;rintro e wt ⟨rfl,hbt⟩))
       go_ret
       exact ⟨rfl,hbt⟩
      | false =>
       rw [if_neg (by rintro (h | h | h);omega;omega;cases h),if_neg h43]
       by_cases h62 : bAt s (i + 1 + L) = 62
       ·have h62' : atB s ((i : Int) + 1 + (L : Int)) 62 = true:=zbe (i:=i + 1 + L) (by omega) h62
        rw [if_pos h62]
        clear h43 h62
        go_enter Tryz.func75,Tryz.ntmps75
        go_wp2_with (first | (go_at_call 93;refine (zam (zah _ _ _ _ (by omega) _hs)).mono ?_;rintro e _ ⟨rfl,rfl⟩) | (go_at_call 91;refine (hlc _).mono ?_;rintro e _ ⟨rfl,rfl⟩) | (go_at_call 92;refine (zcf _ _ (by rw [hsz];omega)).mono ?_;rintro e wt ⟨rfl,hbt⟩))
        go_ret
        exact ⟨zcx (by show _ = ((_ : Nat) : Int);omega),hbt⟩
       ·have h62' : atB s ((i : Int) + 1 + (L : Int)) 62 = false:=zbb (i:=i + 1 + L) (by omega) h62
        rw [if_neg h62]
        clear h43 h62
        go_enter Tryz.func75,Tryz.ntmps75
        go_wp2_with (first | (go_at_call 93;refine (zam (zah _ _ _ _ (by omega) _hs)).mono ?_;rintro e _ ⟨rfl,rfl⟩) | (go_at_call 91;refine (hlc _).mono ?_;rintro e _ ⟨rfl,rfl⟩) | (go_at_call 92;refine (zcf _ _ (by rw [hsz];omega)).mono ?_;rintro e wt ⟨rfl,hbt⟩))
        go_ret
        exact ⟨rfl,hbt⟩
  have h60' : ((s[i].toNat : Int) == 60) = false:=by rw [<- hbi.out];simpa using h60
  by_cases h91 : bAt s i = 91
  ·have h91' : ((s[i].toNat : Int) == 91) = true:=by rw [<- hbi.out];simp [h91]
   rw [if_neg h105,if_neg h108,if_neg h115,if_neg h60,if_pos h91]
   unfold zbt
   rcases hq : zac true s n (i + 1) with _ | ⟨t',k'⟩
   ·have hcall:=fun w => IE.no w (show s.size <= i + 1 + n by omega) (by omega) hq
    have hng : atB s (-1) 93 = false:=rfl
    clear h105 h108 h115 h60 h91 hq
    go_enter Tryz.func75,Tryz.ntmps75
    go_wp2_with (first | (go_at_call 93;refine (zam (zah _ _ _ _ (by omega) _hs)).mono ?_;rintro e _ ⟨rfl,rfl⟩) | (go_at_call 75;refine (hcall _).mono ?_;rintro e w1 ⟨rfl,hb1⟩))
    go_ret
    exact ⟨rfl,hb1⟩
   ·have hcall:=fun w => IE.yes w (show s.size <= i + 1 + n by omega) (by omega) hq
    have hkb:=za8 true s _ _ _ _ hq
    simp only
    by_cases h93 : bAt s k' = 93
    ·have h93' : atB s k' 93 = true:=zbe rfl h93
     rw [if_pos h93]
     clear h105 h108 h115 h60 h91 hq h93
     go_enter Tryz.func75,Tryz.ntmps75
     go_wp2_with (first | (go_at_call 93;refine (zam (zah _ _ _ _ (by omega) _hs)).mono ?_;rintro e _ ⟨rfl,rfl⟩) | (go_at_call 75;refine (hcall _).mono ?_;rintro e w1 ⟨rfl,hb1⟩))
     go_ret
     exact ⟨rfl,hb1⟩
    ·have h93' : atB s k' 93 = false:=zbb rfl h93
     rw [if_neg h93]
     clear h105 h108 h115 h60 h91 hq h93
     go_enter Tryz.func75,Tryz.ntmps75
     go_wp2_with (first | (go_at_call 93;refine (zam (zah _ _ _ _ (by omega) _hs)).mono ?_;rintro e _ ⟨rfl,rfl⟩) | (go_at_call 75;refine (hcall _).mono ?_;rintro e w1 ⟨rfl,hb1⟩))
     go_ret
     exact ⟨rfl,hb1⟩
  have h91' : ((s[i].toNat : Int) == 91) = false:=by rw [<- hbi.out];simpa using h91
  by_cases h63 : bAt s i = 63
  ·have h63' : ((s[i].toNat : Int) == 63) = true:=by rw [<- hbi.out];simp [h63]
   rw [if_neg h105,if_neg h108,if_neg h115,if_neg h60,if_neg h91,if_pos h63]
   by_cases h63b : bAt s (i + 1) = 63
   ·have h63b' : atB s ((i : Int) + 1) 63 = true:=zbe rfl h63b
    have hnone : zbq (zac true s n) (i + 1) = none:=by
     unfold zbq
     rcases hq : zac true s n (i + 1) with _ | ⟨t',k'⟩
     ·rfl
     ·simp only;rw [if_pos ((zpk hq).mpr h63b)]
    rw [hnone]
    clear h105 h108 h115 h60 h91 h63 hnone h63b
    go_enter Tryz.func75,Tryz.ntmps75
    go_wp2_with (first | (go_at_call 93;refine (zam (zah _ _ _ _ (by omega) _hs)).mono ?_;rintro e _ ⟨rfl,rfl⟩))
    go_ret
    exact ⟨rfl,Below.refl _ _⟩
   ·have h63b' : atB s ((i : Int) + 1) 63 = false:=zbb rfl h63b
    unfold zbq
    rcases hq : zac true s n (i + 1) with _ | ⟨t',k'⟩
    ·have hcall:=fun w => IE.no w (show s.size <= i + 1 + n by omega) (by omega) hq
     clear h105 h108 h115 h60 h91 h63 hq h63b
     go_enter Tryz.func75,Tryz.ntmps75
     go_wp2_with (first | (go_at_call 93;refine (zam (zah _ _ _ _ (by omega) _hs)).mono ?_;rintro e _ ⟨rfl,rfl⟩) | (go_at_call 75;refine (hcall _).mono ?_;rintro e w1 ⟨rfl,hb1⟩))
     go_ret
     exact ⟨rfl,hb1⟩
    ·have hcall:=fun w => IE.yes w (show s.size <= i + 1 + n by omega) (by omega) hq
     simp only
     rw [if_neg (fun h => h63b ((zpk hq).mp h))]
     clear h105 h108 h115 h60 h91 h63 hq h63b
     go_enter Tryz.func75,Tryz.ntmps75
     go_wp2_with (first | (go_at_call 93;refine (zam (zah _ _ _ _ (by omega) _hs)).mono ?_;rintro e _ ⟨rfl,rfl⟩) | (go_at_call 75;refine (hcall _).mono ?_;rintro e w1 ⟨rfl,hb1⟩))
     go_ret
     exact ⟨rfl,hb1⟩
  have h63' : ((s[i].toNat : Int) == 63) = false:=by rw [<- hbi.out];simpa using h63
  by_cases h123 : bAt s i = 123
  ·have h123' : ((s[i].toNat : Int) == 123) = true:=by rw [<- hbi.out];simp [h123]
   rw [if_neg h105,if_neg h108,if_neg h115,if_neg h60,if_neg h91,if_neg h63,if_pos h123]
   unfold pRec
   have hF:=fun w => IF i w his' (by omega)
   rcases hq : zaz (zaj (zac true s n) (enc true s n) s) s (s.size - (i + 1)) (i + 1) [] with _ | ⟨fs,k'⟩
   ·rw [hq] at hF
    have hcall : ∀ w,Calls Tryz.prog 94 #[.string s,.int .i64 i] w fun e w' => e = .returned (.tuple #[.slice none 0 0,.int .i64 (-1)]) /\ Below w.heap.size w w':=hF
    clear h105 h108 h115 h60 h91 h63 h123 hq hF
    go_enter Tryz.func75,Tryz.ntmps75
    go_wp2_with (go_at_call 94;refine (hcall _).mono ?_;rintro e w1 ⟨rfl,hb1⟩)
    go_ret
    exact ⟨rfl,hb1⟩
   ·rw [hq] at hF
    have hcall : ∀ w,Calls Tryz.prog 94 #[.string s,.int .i64 i] w fun e w' => ∃ g cap,e = .returned (.tuple #[.slice (some ⟨g,0,none⟩) fs.length cap,.int .i64 k']) /\ Below w.heap.size w w':=fun w => by
     refine (hF w).mono ?_
     rintro e w' ⟨⟨g,cap,xs,h1,h2,h3⟩,h4⟩
     exact ⟨g,cap,h1,h4⟩
    clear h105 h108 h115 h60 h91 h63 h123 hq hF
    go_enter Tryz.func75,Tryz.ntmps75
    go_wp2_with (go_at_call 94;refine (hcall _).mono ?_;rintro e w1 ⟨g,cap,rfl,hb1⟩)
    go_ret
    exact ⟨rfl,hb1⟩
  have h123' : ((s[i].toNat : Int) == 123) = false:=by rw [<- hbi.out];simpa using h123
  rw [if_neg h105,if_neg h108,if_neg h115,if_neg h60,if_neg h91,if_neg h63,if_neg h123]
  clear h105 h108 h115 h60 h91 h63 h123 
  go_enter Tryz.func75,Tryz.ntmps75
  go_wp2_with fail
  go_ret
  exact ⟨rfl,Below.refl _ _⟩
theorem zd1 {s : ByteArray} (hs : s.size <= 4096) : ∀ n,n <= 101 -> EndsOK n s /\ ∀ t : ByteArray,t.size <= 4096 -> LayOK n s t
 | 0,_ => ⟨fun i w h1 h2 => znv hs i w (by omega) h2,fun t ht i j w ty k hp => by simp [zac] at hp⟩
 | n + 1,hn => by
  obtain ⟨h1,h2⟩:=zd1 hs n (by omega)
  have hF:=zgk h1 (h2 s hs) hs (by omega)
  exact ⟨zue h1 hF hs (by omega),fun t ht => zva (h2 t ht) hF hs ht (by omega)⟩
end
end Go.Proofs.YtkkekopomiehlaaGreat
