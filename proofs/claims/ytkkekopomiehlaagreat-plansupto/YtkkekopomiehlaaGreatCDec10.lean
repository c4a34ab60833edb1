import Derived.Test.YtkkekopomiehlaaGreatCFt4
set_option linter.unusedVariables false
set_option linter.unusedSimpArgs false
set_option maxHeartbeats 40000000
set_option maxRecDepth 4000
namespace Go.Proofs.YtkkekopomiehlaaGreat
section
open Go.RowKit
def zc9 (f : Ty -> Nat -> Option (ByteArray × Nat)) : List (Nat × Ty × ByteArray) -> Nat -> ByteArray -> Option (ByteArray × Nat)
 | [],fr,t => some (t,fr)
 | g :: fs,fr,t =>
  match f g.2.1 fr with
  | none => none
  | some (x,nx) => zc9 f fs nx (((t ++ ⟨#[44]⟩) ++ oneB g.1) ++ ⟨#[58]⟩ ++ x)
def zjn (p : ByteArray × Nat) : ByteArray × Nat:=(⟨#[123]⟩ ++ p.1.extract 1 p.1.size ++ ⟨#[125]⟩,p.2)
theorem zjz (c : UInt8) (a : ByteArray) : ((⟨#[c]⟩ : ByteArray) ++ a).extract 1 ((⟨#[c]⟩ : ByteArray) ++ a).size = a:=by
 have h1 : (⟨#[c]⟩ : ByteArray).size = 1:=rfl
 rw [ByteArray.extract_append,h1,ByteArray.size_append,h1]
 have h2 : (⟨#[c]⟩ : ByteArray).extract 1 (1 + a.size) = ByteArray.empty:=by
  apply ByteArray.ext;simp [ByteArray.data_extract]
 rw [h2];simp
theorem zkq {d : ByteArray} (h : 1 <= d.size) : d.toList.isEmpty = false:=by
 rw [ByteArray.toList_eq]
 cases hl : d.data.toList with
 | nil =>
  have h2 : d.data.size = 0:=by rw [<- Array.length_toList,hl];rfl
  have h3 : d.size = d.data.size:=rfl
  omega
 | cons _ _ => rfl
theorem zq6 (f : Ty -> Nat -> Option (ByteArray × Nat)) : ∀ (fs : List (Nat × Ty × ByteArray)) (fr : Nat) (a : ByteArray),
  zbw f fs ⟨#[44]⟩ fr (⟨#[123]⟩ ++ a) = (zc9 f fs fr (⟨#[44]⟩ ++ a)).map zjn
 | [],fr,a => by simp only [zbw,zc9,Option.map_some,zjn,zjz]
 | g :: fs,fr,a => by
  simp only [zbw,zc9]
  cases hx : f g.2.1 fr with
  | none => rfl
  | some p =>
   obtain ⟨x,nx⟩:=p
   simp only
   have:=zq6 f fs nx (a ++ (⟨#[44]⟩ ++ oneB g.1 ++ ⟨#[58]⟩ ++ x))
   simp only [ByteArray.append_assoc] at this ⊢
   exact this
theorem zz6 (f : Ty -> Nat -> Option (ByteArray × Nat)) (fs : List (Nat × Ty × ByteArray)) (fr : Nat) (h : fs ≠ []) :
  zbw f fs ⟨#[123]⟩ fr ByteArray.empty = (zc9 f fs fr ByteArray.empty).map zjn:=by
 cases fs with
 | nil => exact absurd rfl h
 | cons g fs =>
  simp only [zbw,zc9]
  cases hx : f g.2.1 fr with
  | none => rfl
  | some p =>
   obtain ⟨x,nx⟩:=p
   simp only
   have:=zq6 f fs nx (oneB g.1 ++ ⟨#[58]⟩ ++ x)
   simp only [ByteArray.append_assoc,ByteArray.empty_append] at this ⊢
   exact this
theorem zq8 {n : Nat} {s t : ByteArray} (IL : TellOK n s t) (ht : t.size <= 4096) (hn : n <= 100) (i j : Nat) {fs : List (Nat × Ty × ByteArray)} {k0 : Nat} (hne : 0 < fs.length) (hfl : fs.length <= 4096)
  (hF0 : ∀ w,Calls Tryz.prog 94 #[.string s,.int .i64 i] w fun e w' => GRet w.heap.size n s (some (fs,k0)) e w' /\ Below w.heap.size w w') (w : World) (hj : j < t.size) :
  Calls Tryz.prog 120 #[.string s,.int .i64 i,.string t,.int .i64 j] w fun e w' => e = .returned (zbx (zbw (dec t n) fs ⟨#[123]⟩ j ByteArray.empty)) /\ Below w.heap.size w w':=by
 have _hs : t.size <= 9000000:=by omega
 have hF : ∀ w,Calls Tryz.prog 94 #[.string s,.int .i64 i] w fun e w' => ∃ g cap xs,e = .returned (.tuple #[.slice (some ⟨g,0,none⟩) fs.length cap,.int .i64 k0]) /\ w'.ownsRow w.heap.size 176 4 (.slice (some ⟨g,0,none⟩) fs.length cap) fs.length xs /\ RowR n s xs fs /\ Below w.heap.size w w':=fun w => by
  refine (hF0 w).mono ?_
  rintro e w' ⟨⟨g,cap,xs,h1,h2,h3⟩,h4⟩
  exact ⟨g,cap,xs,h1,h2,h3,h4⟩
 clear hF0
 rw [zz6 _ fs j (by intro h;rw [h] at hne;simp at hne)]
 obtain ⟨R,hR⟩ : ∃ R,R = zc9 (dec t n) fs j ByteArray.empty:=⟨_,rfl⟩
 rw [<- hR]
 have HR : Hid (R = zc9 (dec t n) fs j ByteArray.empty):=hR
 clear hR
 go_enter Tryz.func120,Tryz.ntmps120
 go_wp2_with (go_at_call 94;refine (hF _).mono ?_;rintro e wf ⟨g,cap,xs,rfl,hown,hrow,hbf0⟩)
 go_loopw [12,13,14] (fun vd vb vi wr => ∃ (x b : Nat) (d : ByteArray),x <= fs.length /\ j <= b /\ b <= t.size /\ vi = .int .i64 x /\ vb = .int .i64 b /\ vd = .string d /\ Hid (R = zc9 (dec t n) (fs.drop x) b d) /\ Hid (d.size <= (4 * n + 23) * (b - j)) /\ x <= d.size /\ Below wf.heap.size wf wr) (fun _ _ x _ => fs.length - (intOf x).toNat)
 case atStart => exact ⟨0,j,ByteArray.empty,Nat.zero_le _,Nat.le_refl _,by omega,rfl,rfl,rfl,HR,Nat.zero_le _,Nat.zero_le _,Below.refl _ _⟩
 case round =>
  obtain ⟨x,b,d,hx0,hjb,hbt,rfl,rfl,rfl,hR,hd,hxd,hb⟩:=hrel
  have hds:=zg4 hd.out (by omega) hn (by omega)
  by_cases hlt : x < fs.length
  ·obtain ⟨f,hf⟩ : ∃ f,fs[x]? = some f:=⟨fs[x],List.getElem?_eq_getElem hlt⟩
   have hdrop : fs.drop x = f :: fs.drop (x + 1):=by
    rw [List.drop_eq_getElem_cons hlt];rw [List.getElem?_eq_getElem hlt] at hf;simp at hf;rw [hf]
   obtain ⟨p,kp,hp,hpn,h256,c0,c1,c2,c3⟩:=hrow.2 x f hf
   have k0:=zaa hb (zaq hown c0)
   have k1:=zaa hb (zaq hown c1)
   have hg' : g < wr.heap.size:=zaf k0
   clear hf c0 c1 c2 c3
   rw [hdrop,zc9] at hR
   cases hy : dec t n f.2.1 b with
   | none =>
    have hr' : Hid (R = none):=by show _ = _;rw [hR.out,hy]
    have hcall:=fun w => IL.no w hp hpn hbt hy
    clear hy hR hrow hown
    go_wp2_with (go_at_call 97;refine (hcall _).mono ?_;rintro e w1 ⟨rfl,hb1⟩)
    go_ret2
    rw [hr'.out]
    exact ⟨rfl,(hbf0.trans (hb.mono hbf0.size)).trans (hb1.mono (Nat.le_trans hbf0.size hb.size))⟩
   | some q =>
    obtain ⟨y,k⟩:=q
    obtain ⟨e1,e2,e3⟩:=zhp hy
    have hs1:=zg4 e3 (by omega) hn (by omega)
    have one1 : (⟨#[44]⟩ : ByteArray).size = 1:=rfl
    have one2 : (⟨#[58]⟩ : ByteArray).size = 1:=rfl
    have hso : (oneB f.1).size = 1:=rfl
    have z1 : (d ++ ⟨#[44]⟩).size = d.size + 1:=by rw [ByteArray.size_append,one1]
    have z2 : (d ++ ⟨#[44]⟩ ++ oneB f.1).size = d.size + 2:=by rw [ByteArray.size_append,z1,hso]
    have z3 : (d ++ ⟨#[44]⟩ ++ oneB f.1 ++ ⟨#[58]⟩).size = d.size + 3:=by rw [ByteArray.size_append,z2,one2]
    have z4 : (d ++ ⟨#[44]⟩ ++ oneB f.1 ++ ⟨#[58]⟩ ++ y).size = d.size + 3 + y.size:=by rw [ByteArray.size_append,z3]
    have hr' : Hid (R = zc9 (dec t n) (fs.drop (x + 1)) k (d ++ ⟨#[44]⟩ ++ oneB f.1 ++ ⟨#[58]⟩ ++ y)):=by show _ = _;rw [hR.out,hy]
    have HS : Hid ((d ++ ⟨#[44]⟩ ++ oneB f.1 ++ ⟨#[58]⟩ ++ y).size <= (4 * n + 23) * (k - j)):=by
     show _ <= _
     rw [z4]
     have h1:=zcj (C:=4 * n + 23) (show j <= b by omega) (show b <= k by omega)
     have h2 : (4 * n + 23) * (k - b) = (4 * n + 20) * (k - b) + 3 * (k - b):=by rw [show 4 * n + 23 = (4 * n + 20) + 3 by omega,Nat.add_mul]
     have:=hd.out
     omega
    have hcall:=fun w => IL.yes w hp hpn hbt hy
    have hconv:=fun (W : World) (b : Nat) (h : W.cell? ⟨b,0,none⟩ = some (.int .u8 f.1)) => zgd W b f.1 h256 h
    clear hy hR hrow hown e3
    go_wp2_with (go_at_call 97;refine (hcall _).mono ?_;rintro e w1 ⟨rfl,hb1⟩;obtain ⟨hc1,hf1⟩:=zal hb1)
    go_roundw
    case rel => exact ⟨x + 1,k,_,by omega,by omega,by omega,by go_num,rfl,rfl,hr',HS,by rw [z4];omega,(hb.trans (hb1.mono hb.size)).alloc (Nat.le_trans hb.size hb1.size) _⟩
    case measure => simp [intOf];omega
  ·have hnil : fs.drop x = []:=List.drop_of_length_le (by omega)
   have hr' : Hid (R = some (d,b)):=by show _ = _;rw [hR.out,hnil,zc9]
   have hd1 : 1 <= d.size:=by omega
   have hde:=zkq hd1
   have hsx:=size_extract d 1 d.size hd1 (Nat.le_refl _)
   clear hR hnil
   go_wp2_with fail
   go_ret2
   rw [hr'.out]
   exact ⟨rfl,hbf0.trans (hb.mono hbf0.size)⟩
end
section
open Go.RowKit
set_option maxRecDepth 10000 in
theorem zi2 (s : ByteArray) (a : Nat) (lo hi : Int) (w : World) (_hs : s.size <= 9000000) (ha : a < s.size) (hl0 : -1000000000000000 <= lo) (hh0 : hi <= 1000000000000000) :
  Calls Tryz.prog 117 #[.string s,.int .i64 a,.int .i64 lo,.int .i64 hi] w fun e w' => e = .returned (zbx (za4 lo hi s a)) /\ Below w.heap.size w w':=by
 obtain ⟨U,E,hUE⟩ : ∃ U E,zbg s 8 a 0 1 = (U,E):=⟨_,_,rfl⟩
 have HP : Hid (za4 lo hi s a = if zao (zbj U) ≠ s.extract a E \/ zbj U < lo \/ hi < zbj U then none else some (decI (zbj U),E)):=by show _ = _;unfold za4;rw [hUE]
 have HR : Hid (zbg s 8 a 0 1 = (U,E)):=hUE
 have hUb:=zir s 8 a 0 1 U E (by omega) (by omega) hUE
 obtain ⟨hU1,hE1,hE2,_⟩:=hUb
 have hU2 : U < 72057594037927936:=by simpa using hU1
 clear hUE hU1
 obtain ⟨V,hV⟩ : ∃ V,V = zbj U:=⟨_,rfl⟩
 rw [<- hV] at HP
 have hV1 : -40000000000000000 <= V:=by rw [hV];unfold zbj;split <;> omega
 have hV2 : V <= 40000000000000000:=by rw [hV];unfold zbj;split <;> omega
 have hVo : Hid (U % 2 = 1 -> wrap64 (-((U : Int) + 1).tdiv 2) = V):=by
  intro h
  rw [hV,Int.tdiv_eq_ediv_of_nonneg (by omega)];unfold zbj wrap64;rw [if_pos h];omega
 have hVe : Hid (U % 2 = 0 -> (U : Int) / 2 = V):=by
  intro h
  rw [hV];unfold zbj;rw [if_neg (by omega)];omega
 clear hV
 have hEsz:=size_extract s a E (by omega) hE2
 go_enter Tryz.func117,Tryz.ntmps117
 go_wp2_with fail
 go_loop [10,11,12] (fun vk vu vx => ∃ (m k u x : Nat),k + m = a + 8 /\ a <= k /\ k <= s.size /\ vk = .int .i64 k /\ vu = .int .i64 u /\ vx = .int .i64 x /\ u < x /\ 1 <= x /\ x <= 72057594037927936 /\ Hid (x * 128 ^ m = 72057594037927936) /\ Hid (zbg s m k u x = (U,E))) (fun k _ _ => a + 8 - (intOf k).toNat)
 case atStart => exact ⟨8,a,0,1,rfl,Nat.le_refl _,by omega,rfl,rfl,rfl,by omega,by omega,by omega,by show 1 * 128 ^ 8 = _;omega,HR⟩
 case round =>
  obtain ⟨m,k,u,x,hkm,hak,hks,rfl,rfl,rfl,hux,hx1,hx2,hxm,hR⟩:=hrel
  by_cases hlt : k < s.size
  ·have hbk : Hid (bAt s k = s[k].toNat):=za1 s k hlt
   have hb256:=s[k].toNat_lt
   cases m with
   | zero =>
    have h8 : ¬ (k : Int) - (a : Int) < 8:=by omega
    have hr : Hid (u = U /\ k = E):=by have h:=hR.out;simp only [zbg,Prod.mk.injEq] at h;exact h
    have hZ : Hid ((u : Int) = (U : Int)):=by show _ = _;have:=hr.out.1;omega
    have hE : Hid ((k : Int) = (E : Int)):=by show _ = _;have:=hr.out.2;omega
    clear hR hxm
    by_cases hpar : U % 2 = 1
    ·have hp' : ((u : Int) % 2 == 1) = true:=by rw [hZ.out];simp;omega
     have hVV : wrap64 (-((u : Int) + 1).tdiv 2) = V:=by rw [hZ.out];exact hVo.out hpar
     clear hpar hVo hVe
     by_cases hc : zao V = s.extract a E
     ·have hc' : ((zao V).toList == (s.extract a k).toList) = true:=by rw [hc,show k = E by have:=hE.out;omega];simp
      by_cases hlo : V < lo
      ·have hr' : Hid (za4 lo hi s a = none):=by show _ = _;rw [HP.out,if_pos (.inr (.inl hlo))]
       clear HP hc
       go_wp2_with (first | (go_at_call 131;refine (zat V _ hV1 hV2).mono ?_;rintro e w1 ⟨rfl,hb1⟩) | (go_at_call 132;refine (zau V _ (by omega) (by omega)).mono ?_;rintro e w2 ⟨rfl,hb2⟩))
       go_ret2
       rw [hr'.out]
       exact ⟨rfl,hb1⟩
      ·by_cases hhi : hi < V
       ·have hr' : Hid (za4 lo hi s a = none):=by show _ = _;rw [HP.out,if_pos (.inr (.inr hhi))]
        clear HP hc
        go_wp2_with (first | (go_at_call 131;refine (zat V _ hV1 hV2).mono ?_;rintro e w1 ⟨rfl,hb1⟩) | (go_at_call 132;refine (zau V _ (by omega) (by omega)).mono ?_;rintro e w2 ⟨rfl,hb2⟩))
        go_ret2
        rw [hr'.out]
        exact ⟨rfl,hb1⟩
       ·have hr' : Hid (za4 lo hi s a = some (decI V,E)):=by show _ = _;rw [HP.out,if_neg];rintro (h | h | h);exact h hc;exact hlo h;exact hhi h
        clear HP hc
        go_wp2_with (first | (go_at_call 131;refine (zat V _ hV1 hV2).mono ?_;rintro e w1 ⟨rfl,hb1⟩) | (go_at_call 132;refine (zau V _ (by omega) (by omega)).mono ?_;rintro e w2 ⟨rfl,hb2⟩))
        go_ret2
        rw [hr'.out]
        exact ⟨ret2 rfl (zbz hE.out),hb1.trans (hb2.mono hb1.size)⟩
     ·have hc' : ((zao V).toList == (s.extract a k).toList) = false:=by
       rw [show k = E by have:=hE.out;omega,beq_eq_false_iff_ne];intro h;apply hc;rw [ByteArray.toList_eq,ByteArray.toList_eq] at h;apply ByteArray.ext;exact Array.ext' h
      have hr' : Hid (za4 lo hi s a = none):=by show _ = _;rw [HP.out,if_pos (.inl hc)]
      clear HP hc
      go_wp2_with (first | (go_at_call 131;refine (zat V _ hV1 hV2).mono ?_;rintro e w1 ⟨rfl,hb1⟩) | (go_at_call 132;refine (zau V _ (by omega) (by omega)).mono ?_;rintro e w2 ⟨rfl,hb2⟩))
      go_ret2
      rw [hr'.out]
      exact ⟨rfl,hb1⟩
    ·have hp' : ((u : Int) % 2 == 1) = false:=by rw [hZ.out];rw [beq_eq_false_iff_ne];omega
     have hVV : (u : Int) / 2 = V:=by rw [hZ.out];exact hVe.out (by omega)
     clear hpar hVo hVe
     by_cases hc : zao V = s.extract a E
     ·have hc' : ((zao V).toList == (s.extract a k).toList) = true:=by rw [hc,show k = E by have:=hE.out;omega];simp
      by_cases hlo : V < lo
      ·have hr' : Hid (za4 lo hi s a = none):=by show _ = _;rw [HP.out,if_pos (.inr (.inl hlo))]
       clear HP hc
       go_wp2_with (first | (go_at_call 131;refine (zat V _ hV1 hV2).mono ?_;rintro e w1 ⟨rfl,hb1⟩) | (go_at_call 132;refine (zau V _ (by omega) (by omega)).mono ?_;rintro e w2 ⟨rfl,hb2⟩))
       go_ret2
       rw [hr'.out]
       exact ⟨rfl,hb1⟩
      ·by_cases hhi : hi < V
       ·have hr' : Hid (za4 lo hi s a = none):=by show _ = _;rw [HP.out,if_pos (.inr (.inr hhi))]
        clear HP hc
        go_wp2_with (first | (go_at_call 131;refine (zat V _ hV1 hV2).mono ?_;rintro e w1 ⟨rfl,hb1⟩) | (go_at_call 132;refine (zau V _ (by omega) (by omega)).mono ?_;rintro e w2 ⟨rfl,hb2⟩))
        go_ret2
        rw [hr'.out]
        exact ⟨rfl,hb1⟩
       ·have hr' : Hid (za4 lo hi s a = some (decI V,E)):=by show _ = _;rw [HP.out,if_neg];rintro (h | h | h);exact h hc;exact hlo h;exact hhi h
        clear HP hc
        go_wp2_with (first | (go_at_call 131;refine (zat V _ hV1 hV2).mono ?_;rintro e w1 ⟨rfl,hb1⟩) | (go_at_call 132;refine (zau V _ (by omega) (by omega)).mono ?_;rintro e w2 ⟨rfl,hb2⟩))
        go_ret2
        rw [hr'.out]
        exact ⟨ret2 rfl (zbz hE.out),hb1.trans (hb2.mono hb1.size)⟩
     ·have hc' : ((zao V).toList == (s.extract a k).toList) = false:=by
       rw [show k = E by have:=hE.out;omega,beq_eq_false_iff_ne];intro h;apply hc;rw [ByteArray.toList_eq,ByteArray.toList_eq] at h;apply ByteArray.ext;exact Array.ext' h
      have hr' : Hid (za4 lo hi s a = none):=by show _ = _;rw [HP.out,if_pos (.inl hc)]
      clear HP hc
      go_wp2_with (first | (go_at_call 131;refine (zat V _ hV1 hV2).mono ?_;rintro e w1 ⟨rfl,hb1⟩) | (go_at_call 132;refine (zau V _ (by omega) (by omega)).mono ?_;rintro e w2 ⟨rfl,hb2⟩))
      go_ret2
      rw [hr'.out]
      exact ⟨rfl,hb1⟩
   | succ m =>
    have h8 : (k : Int) - (a : Int) < 8:=by omega
    have hx3 : x <= 562949953421312:=by
     have:=hxm.out
     rw [Nat.pow_succ] at this
     have hp : 1 <= 128 ^ m:=Nat.pow_pos (by omega)
     have h2 : x * 128 <= x * (128 ^ m * 128):=Nat.mul_le_mul_left x (by omega)
     omega
    have hcx : 0 <= (s[k].toNat : Int) % 128 * (x : Int) /\ (s[k].toNat : Int) % 128 * (x : Int) <= 127 * (x : Int):=⟨Int.mul_nonneg (by omega) (by omega),Int.mul_le_mul_of_nonneg_right (by omega) (by omega)⟩
    obtain ⟨hcx1,hcx2⟩:=hcx
    have hnat : s[k].toNat % 128 * x <= 127 * x:=Nat.mul_le_mul_right x (by omega)
    have hst : zbg s (m + 1) k u x = if (s[k].toNat : Int) < 128 then (u + s[k].toNat % 128 * x,k + 1) else zbg s m (k + 1) (u + s[k].toNat % 128 * x) (x * 128):=by
     rw [zbg,if_neg (by omega),hbk.out,Int.toNat_natCast]
    by_cases h128 : (s[k].toNat : Int) < 128
    ·have hr : Hid (((u + s[k].toNat % 128 * x : Nat) : Int) = U /\ k + 1 = E):=by
      have h:=hR.out;rw [hst,if_pos h128] at h;simp only [Prod.mk.injEq] at h;exact ⟨by rw [h.1],h.2⟩
     have hr : Hid ((u : Int) + (s[k].toNat : Int) % 128 * (x : Int) = U /\ k + 1 = E):=by
      refine ⟨?_,hr.out.2⟩;rw [<- hr.out.1];simp
     clear hst
     have hZ : Hid (((u : Int) + (s[k].toNat : Int) % 128 * (x : Int)) = (U : Int)):=by show _ = _;have:=hr.out.1;omega
     have hE : Hid (((k : Int) + 1) = (E : Int)):=by show _ = _;have:=hr.out.2;omega
     clear hR hxm
     by_cases hpar : U % 2 = 1
     ·have hp' : (((u : Int) + (s[k].toNat : Int) % 128 * (x : Int)) % 2 == 1) = true:=by rw [hZ.out];simp;omega
      have hVV : wrap64 (-(((u : Int) + (s[k].toNat : Int) % 128 * (x : Int)) + 1).tdiv 2) = V:=by rw [hZ.out];exact hVo.out hpar
      clear hpar hVo hVe
      by_cases hc : zao V = s.extract a E
      ·have hc' : ((zao V).toList == (s.extract a (k + 1)).toList) = true:=by rw [hc,show (k + 1) = E by have:=hE.out;omega];simp
       by_cases hlo : V < lo
       ·have hr' : Hid (za4 lo hi s a = none):=by show _ = _;rw [HP.out,if_pos (.inr (.inl hlo))]
        clear HP hc
        go_wp2_with (first | (go_at_call 131;refine (zat V _ hV1 hV2).mono ?_;rintro e w1 ⟨rfl,hb1⟩) | (go_at_call 132;refine (zau V _ (by omega) (by omega)).mono ?_;rintro e w2 ⟨rfl,hb2⟩))
        go_ret2
        rw [hr'.out]
        exact ⟨rfl,hb1⟩
       ·by_cases hhi : hi < V
        ·have hr' : Hid (za4 lo hi s a = none):=by show _ = _;rw [HP.out,if_pos (.inr (.inr hhi))]
         clear HP hc
         go_wp2_with (first | (go_at_call 131;refine (zat V _ hV1 hV2).mono ?_;rintro e w1 ⟨rfl,hb1⟩) | (go_at_call 132;refine (zau V _ (by omega) (by omega)).mono ?_;rintro e w2 ⟨rfl,hb2⟩))
         go_ret2
         rw [hr'.out]
         exact ⟨rfl,hb1⟩
        ·have hr' : Hid (za4 lo hi s a = some (decI V,E)):=by show _ = _;rw [HP.out,if_neg];rintro (h | h | h);exact h hc;exact hlo h;exact hhi h
         clear HP hc
         go_wp2_with (first | (go_at_call 131;refine (zat V _ hV1 hV2).mono ?_;rintro e w1 ⟨rfl,hb1⟩) | (go_at_call 132;refine (zau V _ (by omega) (by omega)).mono ?_;rintro e w2 ⟨rfl,hb2⟩))
         go_ret2
         rw [hr'.out]
         exact ⟨ret2 rfl (zbz hE.out),hb1.trans (hb2.mono hb1.size)⟩
      ·have hc' : ((zao V).toList == (s.extract a (k + 1)).toList) = false:=by
        rw [show (k + 1) = E by have:=hE.out;omega,beq_eq_false_iff_ne];intro h;apply hc;rw [ByteArray.toList_eq,ByteArray.toList_eq] at h;apply ByteArray.ext;exact Array.ext' h
       have hr' : Hid (za4 lo hi s a = none):=by show _ = _;rw [HP.out,if_pos (.inl hc)]
       clear HP hc
       go_wp2_with (first | (go_at_call 131;refine (zat V _ hV1 hV2).mono ?_;rintro e w1 ⟨rfl,hb1⟩) | (go_at_call 132;refine (zau V _ (by omega) (by omega)).mono ?_;rintro e w2 ⟨rfl,hb2⟩))
       go_ret2
       rw [hr'.out]
       exact ⟨rfl,hb1⟩
     ·have hp' : (((u : Int) + (s[k].toNat : Int) % 128 * (x : Int)) % 2 == 1) = false:=by rw [hZ.out];rw [beq_eq_false_iff_ne];omega
      have hVV : ((u : Int) + (s[k].toNat : Int) % 128 * (x : Int)) / 2 = V:=by rw [hZ.out];exact hVe.out (by omega)
      clear hpar hVo hVe
      by_cases hc : zao V = s.extract a E
      ·have hc' : ((zao V).toList == (s.extract a (k + 1)).toList) = true:=by rw [hc,show (k + 1) = E by have:=hE.out;omega];simp
       by_cases hlo : V < lo
       ·have hr' : Hid (za4 lo hi s a = none):=by show _ = _;rw [HP.out,if_pos (.inr (.inl hlo))]
        clear HP hc
        go_wp2_with (first | (go_at_call 131;refine (zat V _ hV1 hV2).mono ?_;rintro e w1 ⟨rfl,hb1⟩) | (go_at_call 132;refine (zau V _ (by omega) (by omega)).mono ?_;rintro e w2 ⟨rfl,hb2⟩))
        go_ret2
        rw [hr'.out]
        exact ⟨rfl,hb1⟩
       ·by_cases hhi : hi < V
        ·have hr' : Hid (za4 lo hi s a = none):=by show _ = _;rw [HP.out,if_pos (.inr (.inr hhi))]
         clear HP hc
         go_wp2_with (first | (go_at_call 131;refine (zat V _ hV1 hV2).mono ?_;rintro e w1 ⟨rfl,hb1⟩) | (go_at_call 132;refine (zau V _ (by omega) (by omega)).mono ?_;rintro e w2 ⟨rfl,hb2⟩))
         go_ret2
         rw [hr'.out]
         exact ⟨rfl,hb1⟩
        ·have hr' : Hid (za4 lo hi s a = some (decI V,E)):=by show _ = _;rw [HP.out,if_neg];rintro (h | h | h);exact h hc;exact hlo h;exact hhi h
         clear HP hc
         go_wp2_with (first | (go_at_call 131;refine (zat V _ hV1 hV2).mono ?_;rintro e w1 ⟨rfl,hb1⟩) | (go_at_call 132;refine (zau V _ (by omega) (by omega)).mono ?_;rintro e w2 ⟨rfl,hb2⟩))
         go_ret2
         rw [hr'.out]
         exact ⟨ret2 rfl (zbz hE.out),hb1.trans (hb2.mono hb1.size)⟩
      ·have hc' : ((zao V).toList == (s.extract a (k + 1)).toList) = false:=by
        rw [show (k + 1) = E by have:=hE.out;omega,beq_eq_false_iff_ne];intro h;apply hc;rw [ByteArray.toList_eq,ByteArray.toList_eq] at h;apply ByteArray.ext;exact Array.ext' h
       have hr' : Hid (za4 lo hi s a = none):=by show _ = _;rw [HP.out,if_pos (.inl hc)]
       clear HP hc
       go_wp2_with (first | (go_at_call 131;refine (zat V _ hV1 hV2).mono ?_;rintro e w1 ⟨rfl,hb1⟩) | (go_at_call 132;refine (zau V _ (by omega) (by omega)).mono ?_;rintro e w2 ⟨rfl,hb2⟩))
       go_ret2
       rw [hr'.out]
       exact ⟨rfl,hb1⟩
    ·have hr : Hid (zbg s m (k + 1) (u + s[k].toNat % 128 * x) (x * 128) = (U,E)):=by
      have h:=hR.out;rw [hst,if_neg h128] at h;exact h
     clear hst hVo hVe
     go_wp2_with fail
     go_round
     case rel =>
      refine ⟨m,k + 1,u + s[k].toNat % 128 * x,x * 128,by omega,by omega,by omega,by go_num,zbz ?_,zbz ?_,by omega,by omega,by omega,?_,hr⟩
      iterate 2
       ·simp
      ·show _ = _
       have:=hxm.out
       rw [Nat.pow_succ,Nat.mul_comm (128 ^ m)] at this
       rw [Nat.mul_assoc];exact this
     case measure => simp [intOf];omega
  ·have hlt' : (s.size : Int) <= (k : Int):=by omega
   have hr : Hid (u = U /\ k = E):=by
    have h:=hR.out
    cases m with
    | zero => simp only [zbg,Prod.mk.injEq] at h;exact h
    | succ m => rw [zbg,if_pos (by omega)] at h;simp only [Prod.mk.injEq] at h;exact h
   have hZ : Hid ((u : Int) = (U : Int)):=by show _ = _;have:=hr.out.1;omega
   have hE : Hid ((k : Int) = (E : Int)):=by show _ = _;have:=hr.out.2;omega
   clear hR hxm
   by_cases hpar : U % 2 = 1
   ·have hp' : ((u : Int) % 2 == 1) = true:=by rw [hZ.out];simp;omega
    have hVV : wrap64 (-((u : Int) + 1).tdiv 2) = V:=by rw [hZ.out];exact hVo.out hpar
    clear hpar hVo hVe
    by_cases hc : zao V = s.extract a E
    ·have hc' : ((zao V).toList == (s.extract a k).toList) = true:=by rw [hc,show k = E by have:=hE.out;omega];simp
     by_cases hlo : V < lo
     ·have hr' : Hid (za4 lo hi s a = none):=by show _ = _;rw [HP.out,if_pos (.inr (.inl hlo))]
      clear HP hc
      go_wp2_with (first | (go_at_call 131;refine (zat V _ hV1 hV2).mono ?_;rintro e w1 ⟨rfl,hb1⟩) | (go_at_call 132;refine (zau V _ (by omega) (by omega)).mono ?_;rintro e w2 ⟨rfl,hb2⟩))
      go_ret2
      rw [hr'.out]
      exact ⟨rfl,hb1⟩
     ·by_cases hhi : hi < V
      ·have hr' : Hid (za4 lo hi s a = none):=by show _ = _;rw [HP.out,if_pos (.inr (.inr hhi))]
       clear HP hc
       go_wp2_with (first | (go_at_call 131;refine (zat V _ hV1 hV2).mono ?_;rintro e w1 ⟨rfl,hb1⟩) | (go_at_call 132;refine (zau V _ (by omega) (by omega)).mono ?_;rintro e w2 ⟨rfl,hb2⟩))
       go_ret2
       rw [hr'.out]
       exact ⟨rfl,hb1⟩
      ·have hr' : Hid (za4 lo hi s a = some (decI V,E)):=by show _ = _;rw [HP.out,if_neg];rintro (h | h | h);exact h hc;exact hlo h;exact hhi h
       clear HP hc
       go_wp2_with (first | (go_at_call 131;refine (zat V _ hV1 hV2).mono ?_;rintro e w1 ⟨rfl,hb1⟩) | (go_at_call 132;refine (zau V _ (by omega) (by omega)).mono ?_;rintro e w2 ⟨rfl,hb2⟩))
       go_ret2
       rw [hr'.out]
       exact ⟨ret2 rfl (zbz hE.out),hb1.trans (hb2.mono hb1.size)⟩
    ·have hc' : ((zao V).toList == (s.extract a k).toList) = false:=by
      rw [show k = E by have:=hE.out;omega,beq_eq_false_iff_ne];intro h;apply hc;rw [ByteArray.toList_eq,ByteArray.toList_eq] at h;apply ByteArray.ext;exact Array.ext' h
     have hr' : Hid (za4 lo hi s a = none):=by show _ = _;rw [HP.out,if_pos (.inl hc)]
     clear HP hc
     go_wp2_with (first | (go_at_call 131;refine (zat V _ hV1 hV2).mono ?_;rintro e w1 ⟨rfl,hb1⟩) | (go_at_call 132;refine (zau V _ (by omega) (by omega)).mono ?_;rintro e w2 ⟨rfl,hb2⟩))
     go_ret2
     rw [hr'.out]
     exact ⟨rfl,hb1⟩
   ·have hp' : ((u : Int) % 2 == 1) = false:=by rw [hZ.out];rw [beq_eq_false_iff_ne];omega
    have hVV : (u : Int) / 2 = V:=by rw [hZ.out];exact hVe.out (by omega)
    clear hpar hVo hVe
    by_cases hc : zao V = s.extract a E
    ·have hc' : ((zao V).toList == (s.extract a k).toList) = true:=by rw [hc,show k = E by have:=hE.out;omega];simp
     by_cases hlo : V < lo
     ·have hr' : Hid (za4 lo hi s a = none):=by show _ = _;rw [HP.out,if_pos (.inr (.inl hlo))]
      clear HP hc
      go_wp2_with (first | (go_at_call 131;refine (zat V _ hV1 hV2).mono ?_;rintro e w1 ⟨rfl,hb1⟩) | (go_at_call 132;refine (zau V _ (by omega) (by omega)).mono ?_;rintro e w2 ⟨rfl,hb2⟩))
      go_ret2
      rw [hr'.out]
      exact ⟨rfl,hb1⟩
     ·by_cases hhi : hi < V
      ·have hr' : Hid (za4 lo hi s a = none):=by show _ = _;rw [HP.out,if_pos (.inr (.inr hhi))]
       clear HP hc
       go_wp2_with (first | (go_at_call 131;refine (zat V _ hV1 hV2).mono ?_;rintro e w1 ⟨rfl,hb1⟩) | (go_at_call 132;refine (zau V _ (by omega) (by omega)).mono ?_;rintro e w2 ⟨rfl,hb2⟩))
       go_ret2
       rw [hr'.out]
       exact ⟨rfl,hb1⟩
      ·have hr' : Hid (za4 lo hi s a = some (decI V,E)):=by show _ = _;rw [HP.out,if_neg];rintro (h | h | h);exact h hc;exact hlo h;exact hhi h
       clear HP hc
       go_wp2_with (first | (go_at_call 131;refine (zat V _ hV1 hV2).mono ?_;rintro e w1 ⟨rfl,hb1⟩) | (go_at_call 132;refine (zau V _ (by omega) (by omega)).mono ?_;rintro e w2 ⟨rfl,hb2⟩))
       go_ret2
       rw [hr'.out]
       exact ⟨ret2 rfl (zbz hE.out),hb1.trans (hb2.mono hb1.size)⟩
    ·have hc' : ((zao V).toList == (s.extract a k).toList) = false:=by
      rw [show k = E by have:=hE.out;omega,beq_eq_false_iff_ne];intro h;apply hc;rw [ByteArray.toList_eq,ByteArray.toList_eq] at h;apply ByteArray.ext;exact Array.ext' h
     have hr' : Hid (za4 lo hi s a = none):=by show _ = _;rw [HP.out,if_pos (.inl hc)]
     clear HP hc
     go_wp2_with (first | (go_at_call 131;refine (zat V _ hV1 hV2).mono ?_;rintro e w1 ⟨rfl,hb1⟩) | (go_at_call 132;refine (zau V _ (by omega) (by omega)).mono ?_;rintro e w2 ⟨rfl,hb2⟩))
     go_ret2
     rw [hr'.out]
     exact ⟨rfl,hb1⟩
end
end Go.Proofs.YtkkekopomiehlaaGreat
