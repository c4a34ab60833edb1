import Derived.Test.YtkkekopomiehlaaGreatCV9
set_option linter.unusedVariables false
set_option linter.unusedSimpArgs false
set_option maxHeartbeats 40000000
set_option maxRecDepth 4000
namespace Go.Proofs.YtkkekopomiehlaaGreat
section
open Go.RowKit
theorem yabk {α β : Type} {fs : List α} {vs : List β} {i : Nat} {f : α} {v : β} (hf : fs[i]? = some f) (hv : vs[i]? = some v) : (f,v) ∈ fs.zip vs:=by
 refine List.mem_of_getElem? (i:=i) ?_
 rw [List.getElem?_zip_eq_some];exact ⟨hf,hv⟩
def zso (n : Nat) (s d : ByteArray) (o : Option ((Nat × Ty × ByteArray) × Val)) (e : Ending) : Prop :=
 match o with
 | none => e = .returned (.tuple #[.int .i64 (-1),.int .i64 (-1)])
 | some p => ∃ a q kq : Nat,e = .returned (.tuple #[.int .i64 a,.int .i64 q]) /\ At d a (datV n p.2) /\ zac true s n q = some (p.1.2.1,kq) /\ s.size <= q + n
theorem zzt {n : Nat} {s d : ByteArray} (IL : TellOK n s d) (hd : d.size <= 64) (hn : n <= 100) (i j c : Nat) {fs : List (Nat × Ty × ByteArray)} {k0 : Nat} (hfl : fs.length <= 4096)
  (hF0 : ∀ w,Calls Tryz.prog 94 #[.string s,.int .i64 i] w fun e w' => GRet w.heap.size n s (some (fs,k0)) e w' /\ Below w.heap.size w w') (vs : List Val) (hlen : vs.length = fs.length) (hok : ∀ p ∈ fs.zip vs,okV n p.1.2.1 p.2) (hat : At d j (catB (vs.map (datV n)))) (w : World) :
  Calls Tryz.prog 122 #[.string s,.int .i64 i,.int .u8 c,.string d,.int .i64 j] w fun e w' => zso n s d ((fs.zip vs).find? (fun p => p.1.1 == c)) e /\ Below w.heap.size w w':=by
 have _hd : d.size <= 9000000:=by omega
 have hF : ∀ w,Calls Tryz.prog 94 #[.string s,.int .i64 i] w fun e w' => ∃ g cap xs,e = .returned (.tuple #[.slice (some ⟨g,0,none⟩) fs.length cap,.int .i64 k0]) /\ w'.ownsRow w.heap.size 176 4 (.slice (some ⟨g,0,none⟩) fs.length cap) fs.length xs /\ RowR n s xs fs /\ Below w.heap.size w w':=fun w => by
  refine (hF0 w).mono ?_
  rintro e w' ⟨⟨g,cap,xs,h1,h2,h3⟩,h4⟩
  exact ⟨g,cap,xs,h1,h2,h3,h4⟩
 clear hF0
 obtain ⟨R,hR⟩ : ∃ R,R = (fs.zip vs).find? (fun p => p.1.1 == c):=⟨_,rfl⟩
 rw [<- hR]
 have HR : Hid (R = ((fs.drop 0).zip (vs.drop 0)).find? (fun p => p.1.1 == c)):=by show _ = _;rw [List.drop_zero,List.drop_zero];exact hR
 have HA : Hid (At d j (catB ((vs.drop 0).map (datV n)))):=by rw [List.drop_zero];exact hat
 have HO : Hid (∀ p ∈ fs.zip vs,okV n p.1.2.1 p.2):=hok
 have hjd:=hat.le
 clear hR hat hok
 go_enter Tryz.func122,Tryz.ntmps122
 go_wp2_with (go_at_call 94;refine (hF _).mono ?_;rintro e wf ⟨g,cap,xs,rfl,hown,hrow,hbf0⟩)
 go_loopw [14,15] (fun vb vi wr => ∃ (x b : Nat),x <= fs.length /\ j <= b /\ b <= d.size /\ vi = .int .i64 x /\ vb = .int .i64 b /\ Hid (R = ((fs.drop x).zip (vs.drop x)).find? (fun p => p.1.1 == c)) /\ Hid (At d b (catB ((vs.drop x).map (datV n)))) /\ Below wf.heap.size wf wr) (fun _ x _ => fs.length - (intOf x).toNat)
 case atStart => exact ⟨0,j,Nat.zero_le _,Nat.le_refl _,by omega,rfl,rfl,HR,HA,Below.refl _ _⟩
 case round =>
  obtain ⟨x,b,hx0,hjb,hbt,rfl,rfl,hR,hA,hb⟩:=hrel
  by_cases hlt : x < fs.length
  ·obtain ⟨f,hf⟩ : ∃ f,fs[x]? = some f:=⟨fs[x],List.getElem?_eq_getElem hlt⟩
   obtain ⟨v,hv⟩ : ∃ v,vs[x]? = some v:=⟨vs[x],List.getElem?_eq_getElem (by omega)⟩
   have hdf : fs.drop x = f :: fs.drop (x + 1):=by
    rw [List.drop_eq_getElem_cons hlt];rw [List.getElem?_eq_getElem hlt] at hf;simp at hf;rw [hf]
   have hdv : vs.drop x = v :: vs.drop (x + 1):=by
    rw [List.drop_eq_getElem_cons (by omega)];rw [List.getElem?_eq_getElem (by omega)] at hv;simp at hv;rw [hv]
   obtain ⟨p,kp,hp,hpn,h256,c0,c1,c2,c3⟩:=hrow.2 x f hf
   have k0:=zaa hb (zaq hown c0)
   have k1:=zaa hb (zaq hown c1)
   have hg' : g < wr.heap.size:=zaf k0
   have hvk : okV n f.2.1 v:=HO.out (f,v) (yabk hf hv)
   have hA2 : At d b (datV n v) /\ At d (b + (datV n v).size) (catB ((vs.drop (x + 1)).map (datV n))):=by
    have:=hA.out;rw [hdv] at this;simp only [List.map_cons,catB] at this;exact At.app.1 this
   have hR2 : R = if (f.1 == c) = true then some (f,v) else ((fs.drop (x + 1)).zip (vs.drop (x + 1))).find? (fun p => p.1.1 == c):=by
    rw [hR.out,hdf,hdv,List.zip_cons_cons,List.find?_cons]
    cases (f.1 == c) <;> rfl
   clear hf hv c0 c1 c2 c3 hdf hdv
   by_cases hc : f.1 = c
   ·have hc' : ((f.1 : Int) == (c : Int)) = true:=by simp;omega
    have hr' : Hid (R = some (f,v)):=by show _ = _;rw [hR2,if_pos (by simp [hc])]
    have HA2 : Hid (At d b (datV n v)):=hA2.1
    have HP : Hid (zac true s n p = some (f.2.1,kp)):=hp
    clear hR2 hc hA2 hp hR hA hrow hown
    go_wp2_with fail
    go_quiet (fail)
    go_wp2_with fail
    go_ret2
    rw [hr'.out]
    exact ⟨⟨b,p,kp,rfl,HA2.out,HP.out,hpn⟩,below_drewN (hbf0.trans (hb.mono hbf0.size)) _⟩
   ·have hc' : ((f.1 : Int) == (c : Int)) = false:=by simp;omega
    have hr' : Hid (R = ((fs.drop (x + 1)).zip (vs.drop (x + 1))).find? (fun p => p.1.1 == c)):=by show _ = _;rw [hR2,if_neg (by simp [hc])]
    have hdx:=zhq n f.2.1 v b hvk hA2.1
    obtain ⟨q,hq⟩ : ∃ q,q = b + (datV n v).size:=⟨_,rfl⟩
    rw [<- hq] at hdx hA2
    have hq1:=hA2.1.le
    have hcall:=fun w => IL.yes w hp hpn hbt hdx
    have HA2 : Hid (At d q (catB ((vs.drop (x + 1)).map (datV n)))):=hA2.2
    have hqd : q <= d.size:=by omega
    have hbq : b <= q:=by omega
    clear hR2 hc hA2 hp hR hA hdx hq hq1
    go_wp2_with (go_at_call 97;refine (hcall _).mono ?_;rintro e w1 ⟨rfl,hb1⟩)
    go_roundw
    case rel => exact ⟨x + 1,q,by omega,by omega,hqd,by go_num,rfl,hr',HA2,hb.trans (hb1.mono hb.size)⟩
    case measure => simp [intOf];omega
  ·have hnil : fs.drop x = []:=List.drop_of_length_le (by omega)
   have hr' : Hid (R = none):=by show _ = _;rw [hR.out,hnil];rfl
   clear hR hnil hA
   go_wp2_with fail
   go_ret2
   rw [hr'.out]
   exact ⟨rfl,hbf0.trans (hb.mono hbf0.size)⟩
def zco (f : Nat × Ty × ByteArray -> Option ByteArray) : List (Nat × Ty × ByteArray) -> ByteArray -> Option ByteArray
 | [],t => some t
 | g :: gs,t =>
  match f g with
  | none => none
  | some x => zco f gs ((((t ++ ⟨#[44]⟩) ++ oneB g.1) ++ ⟨#[58]⟩) ++ x)
def zjo (t : ByteArray) : ByteArray:=(⟨#[123]⟩ ++ t.extract 1 t.size) ++ ⟨#[125]⟩
theorem zqy (f : Nat × Ty × ByteArray -> Option ByteArray) : ∀ (gs : List (Nat × Ty × ByteArray)) (a : ByteArray),zbu f gs ⟨#[44]⟩ (⟨#[123]⟩ ++ a) = (zco f gs (⟨#[44]⟩ ++ a)).map zjo
 | [],a => by simp only [zbu,zco,Option.map_some,zjo,zjz]
 | g :: gs,a => by
  simp only [zbu,zco]
  cases hx : f g with
  | none => rfl
  | some x =>
   simp only
   have:=zqy f gs (a ++ (⟨#[44]⟩ ++ oneB g.1 ++ ⟨#[58]⟩ ++ x))
   simp only [ByteArray.append_assoc] at this ⊢
   exact this
theorem zzi (f : Nat × Ty × ByteArray -> Option ByteArray) (gs : List (Nat × Ty × ByteArray)) (h : gs ≠ []) : zbu f gs ⟨#[123]⟩ ByteArray.empty = (zco f gs ByteArray.empty).map zjo:=by
 cases gs with
 | nil => exact absurd rfl h
 | cons g gs =>
  simp only [zbu,zco]
  cases hx : f g with
  | none => rfl
  | some x =>
   simp only
   have:=zqy f gs (oneB g.1 ++ ⟨#[58]⟩ ++ x)
   simp only [ByteArray.append_assoc,ByteArray.empty_append] at this ⊢
   exact this
end
section
open Go.RowKit
theorem zq5 {α : Type} (c : α -> Nat) (K : Nat) : ∀ (l : List α) (x : α),x ∈ l -> (l.map c).sum <= K -> c x <= K
 | y :: l,x,h,hk => by
  simp at hk
  rcases List.mem_cons.1 h with rfl | h
  ·omega
  ·exact zq5 c K l x h (by omega)
theorem zx2 {m nw : Nat} {fs : List (Nat × Ty × ByteArray)} {vs : List Val} {gf : Nat × Ty × ByteArray} {y : ByteArray} (hok : ∀ p ∈ fs.zip vs,okV nw p.1.2.1 p.2) (hpos : 1 <= (catB (vs.map (datV nw))).size) (hy : zbi (rdT m) (fs.zip vs) gf = some y) : y.size <= (wt m gf.2.1 + gf.2.2.size) * (catB (vs.map (datV nw))).size:=by
 rw [Nat.add_mul]
 unfold zbi at hy
 split at hy
 ·split at hy
  ·cases hy
  ·cases hy
   have:=Nat.le_mul_of_pos_right gf.2.2.size hpos
   omega
 ·rename_i p hp'
  have hmm:=zj6 hp'
  have h1:=zfp m nw _ _ _ _ (hok p hmm) hy
  have h2:=zjr (l:=vs.map (datV nw)) (x:=datV nw p.2) (List.mem_map.2 ⟨p.2,(List.of_mem_zip (a:=p.1) (b:=p.2) hmm).2,rfl⟩)
  have h3:=Nat.mul_le_mul_left (wt m gf.2.1) h2
  omega
theorem zyn {m : Nat} {s t d : ByteArray} (IH : ze8 m s t d) (hs : s.size <= 4096) (ht : t.size <= 4096) (hd : d.size <= 64) (nw nr i k j : Nat) (hm : nw + nr <= m) (hnw : nw <= 100) (hnr : nr <= 100) {fs gs : List (Nat × Ty × ByteArray)} {k0 k1 : Nat} (hfl : fs.length <= 4096) (hgl : gs.length <= 4096) (hfn : fs ≠ []) (hgn : gs ≠ [])
  (hFs : ∀ w,Calls Tryz.prog 94 #[.string s,.int .i64 i] w fun e w' => GRet w.heap.size nw s (some (fs,k0)) e w' /\ Below w.heap.size w w')
  (hFt : ∀ w,Calls Tryz.prog 94 #[.string t,.int .i64 k] w fun e w' => GRet w.heap.size nr t (some (gs,k1)) e w' /\ Below w.heap.size w w')
  (vs : List Val) (hlen : vs.length = fs.length) (hok : ∀ p ∈ fs.zip vs,okV nw p.1.2.1 p.2) (hat : At d j (catB (vs.map (datV nw)))) (hwt : (gs.map fun f => wt m f.2.1 + f.2.2.size + 4).sum <= 20000) (w : World) :
  Calls Tryz.prog 100 #[.string s,.int .i64 i,.string t,.int .i64 k,.string d,.int .i64 j] w fun e w' => e = .returned (sRet (zbu (zbi (rdT m) (fs.zip vs)) gs ⟨#[123]⟩ ByteArray.empty)) /\ Below w.heap.size w w':=by
 have _hd : d.size <= 9000000:=by omega
 have hF : ∀ w,Calls Tryz.prog 94 #[.string t,.int .i64 k] w fun e w' => ∃ g cap xs,e = .returned (.tuple #[.slice (some ⟨g,0,none⟩) gs.length cap,.int .i64 k1]) /\ w'.ownsRow w.heap.size 176 4 (.slice (some ⟨g,0,none⟩) gs.length cap) gs.length xs /\ RowR nr t xs gs /\ Below w.heap.size w w':=fun w => by
  refine (hFt w).mono ?_
  rintro e w' ⟨⟨g,cap,xs,h1,h2,h3⟩,h4⟩
  exact ⟨g,cap,xs,h1,h2,h3,h4⟩
 have hst:=fun c w => zzt (zi3 (s:=s) (t:=d) hs (by omega) nw hnw) hd hnw i j c hfl hFs vs hlen hok hat w
 have hpos : 1 <= (catB (vs.map (datV nw))).size:=by
  have:=zfc (nw + 1) ⟨123,ByteArray.empty,false,[],fs⟩ (.rcd vs) (zgw ⟨rfl,hfn,hlen,hok⟩)
  rw [zdd] at this;exact this
 have hsf:=fun gf y => zx2 (m:=m) (gf:=gf) (y:=y) hok hpos
 have hLe:=hat.le
 obtain ⟨L,hL⟩ : ∃ L,L = (catB (vs.map (datV nw))).size:=⟨_,rfl⟩
 rw [<- hL] at hpos hsf hLe
 rw [zzi _ gs hgn]
 obtain ⟨R,hR⟩ : ∃ R,R = zco (zbi (rdT m) (fs.zip vs)) gs ByteArray.empty:=⟨_,rfl⟩
 rw [<- hR]
 have HR : Hid (R = zco (zbi (rdT m) (fs.zip vs)) gs ByteArray.empty):=hR
 have HO : Hid (∀ p ∈ fs.zip vs,okV nw p.1.2.1 p.2):=hok
 have hgl0 : 0 < gs.length:=by
  rcases gs with _ | ⟨g,gs⟩
  ·exact absurd rfl hgn
  ·simp
 clear hR hFs hFt hok hat hL hfn hgn
 go_enter Tryz.func100,Tryz.ntmps100
 go_wp2_with (go_at_call 94;refine (hF _).mono ?_;rintro e wf ⟨g,cap,xs,rfl,hown,hrow,hbf0⟩)
 go_loopw [16,17] (fun vd vi wr => ∃ (x : Nat) (u : ByteArray),x <= gs.length /\ vi = .int .i64 x /\ vd = .string u /\ x <= u.size /\ Hid (R = zco (zbi (rdT m) (fs.zip vs)) (gs.drop x) u) /\ Hid (u.size + ((gs.drop x).map fun f => (wt m f.2.1 + f.2.2.size + 4) * L).sum <= 20000 * L) /\ Below wf.heap.size wf wr) (fun _ x _ => gs.length - (intOf x).toNat)
 case atStart =>
  refine ⟨0,ByteArray.empty,Nat.zero_le _,rfl,rfl,Nat.zero_le _,HR,?_,Below.refl _ _⟩
  show _ <= _
  rw [List.drop_zero,zkk (fun f : Nat × Ty × ByteArray => wt m f.2.1 + f.2.2.size + 4),show ByteArray.empty.size = 0 from rfl,Nat.zero_add]
  exact Nat.mul_le_mul_right _ hwt
 case round =>
  obtain ⟨x,u,hx0,rfl,rfl,hxu,hR,hsz,hb⟩:=hrel
  have hK : 20000 * L <= 1280000:=by omega
  have hus : u.size <= 1280000:=by have:=hsz.out;omega
  have one1 : (⟨#[44]⟩ : ByteArray).size = 1:=rfl
  have one2 : (⟨#[58]⟩ : ByteArray).size = 1:=rfl
  have one3 : (⟨#[123]⟩ : ByteArray).size = 1:=rfl
  have one4 : (⟨#[125]⟩ : ByteArray).size = 1:=rfl
  by_cases hlt : x < gs.length
  ·obtain ⟨gf,hf⟩ : ∃ f,gs[x]? = some f:=⟨gs[x],List.getElem?_eq_getElem hlt⟩
   have hdrop : gs.drop x = gf :: gs.drop (x + 1):=by
    rw [List.drop_eq_getElem_cons hlt];rw [List.getElem?_eq_getElem hlt] at hf;simp at hf;rw [hf]
   have hmem:=List.mem_of_getElem? hf
   obtain ⟨p,kp,hp,hpn,h256,c0,c1,c2,c3⟩:=hrow.2 x gf hf
   have k0:=zaa hb (zaq hown c0)
   have k1:=zaa hb (zaq hown c1)
   have k2:=zaa hb (zaq hown c2)
   have k3:=zaa hb (zaq hown c3)
   have hg' : g < wr.heap.size:=zaf k0
   have hwf : wt m gf.2.1 <= 20000:=by
    have:=zq5 (fun f : Nat × Ty × ByteArray => wt m f.2.1 + f.2.2.size + 4) 20000 gs gf hmem hwt
    omega
   have hstc:=hst gf.1
   have hsfg:=hsf gf
   have hstep : ∀ o,zbi (rdT m) (fs.zip vs) gf = o -> R = (match o with | none => none | some y => zco (zbi (rdT m) (fs.zip vs)) (gs.drop (x + 1)) ((((u ++ ⟨#[44]⟩) ++ oneB gf.1) ++ ⟨#[58]⟩) ++ y)):=fun o ho => by
    rw [hR.out,hdrop,zco,ho]
    all_goals (cases o <;> rfl)
   have hsum : u.size + (wt m gf.2.1 + gf.2.2.size) * L + 4 * L + ((gs.drop (x + 1)).map fun f => (wt m f.2.1 + f.2.2.size + 4) * L).sum <= 20000 * L:=by
    have h1:=hsz.out
    rw [hdrop,List.map_cons,List.sum_cons,Nat.add_mul] at h1
    omega
   have hconv:=fun (W : World) (b : Nat) (h : W.cell? ⟨b,0,none⟩ = some (.int .u8 gf.1)) => zgd W b gf.1 h256 h
   have hso : (oneB gf.1).size = 1:=rfl
   have z1 : (u ++ ⟨#[44]⟩).size = u.size + 1:=by rw [ByteArray.size_append,one1]
   have z2 : (u ++ ⟨#[44]⟩ ++ oneB gf.1).size = u.size + 2:=by rw [ByteArray.size_append,z1,hso]
   have z3 : (u ++ ⟨#[44]⟩ ++ oneB gf.1 ++ ⟨#[58]⟩).size = u.size + 3:=by rw [ByteArray.size_append,z2,one2]
   have HS : ∀ y : ByteArray,y.size <= (wt m gf.2.1 + gf.2.2.size) * L -> Hid ((u ++ ⟨#[44]⟩ ++ oneB gf.1 ++ ⟨#[58]⟩ ++ y).size + ((gs.drop (x + 1)).map fun f => (wt m f.2.1 + f.2.2.size + 4) * L).sum <= 20000 * L):=fun y hy => by
    show _ <= _
    rw [ByteArray.size_append,z3]
    omega
   have hzx : ∀ y : ByteArray,x + 1 <= (u ++ ⟨#[44]⟩ ++ oneB gf.1 ++ ⟨#[58]⟩ ++ y).size:=fun y => by rw [ByteArray.size_append,z3];omega
   have hKK : (wt m gf.2.1 + gf.2.2.size) * L <= 1280000:=by omega
   have HSTEP : Hid (∀ o,zbi (rdT m) (fs.zip vs) gf = o -> R = (match o with | none => none | some y => zco (zbi (rdT m) (fs.zip vs)) (gs.drop (x + 1)) ((((u ++ ⟨#[44]⟩) ++ oneB gf.1) ++ ⟨#[58]⟩) ++ y))):=hstep
   have hbw : Below w.heap.size w wr:=hbf0.trans (hb.mono hbf0.size)
   cases hfd : (fs.zip vs).find? (fun p => p.1.1 == gf.1) with
   | none =>
    rw [hfd] at hstc
    have hfv : zbi (rdT m) (fs.zip vs) gf = if gf.2.2.size = 0 then none else some gf.2.2:=by unfold zbi;rw [hfd]
    by_cases hz : gf.2.2.size = 0
    ·have hr' : Hid (R = none):=hstep none (by rw [hfv,if_pos hz])
     have hz' : ¬ 0 < gf.2.2.size:=by omega
     rw [show decide (0 < gf.2.2.size) = false by simpa using hz] at k2
     clear hfd hfv hst hsf hsfg hstep HSTEP hdrop hf hR hrow hown hp c0 c1 c2 c3 hz hsum HS hz'
     go_wp2_with (first | (go_at_call 122;refine (hstc _).mono ?_;rintro e w1 ⟨rfl,hb1⟩;obtain ⟨hc1,hf1⟩:=zal hb1))
     go_ret2
     rw [hr'.out]
     exact ⟨rfl,hbw.trans (hb1.mono hbw.size)⟩
    ·have hr' : Hid (R = zco (zbi (rdT m) (fs.zip vs)) (gs.drop (x + 1)) ((((u ++ ⟨#[44]⟩) ++ oneB gf.1) ++ ⟨#[58]⟩) ++ gf.2.2)):=hstep (some gf.2.2) (by rw [hfv,if_neg hz])
     rw [show decide (0 < gf.2.2.size) = true by simp;omega] at k2
     have hys : gf.2.2.size <= (wt m gf.2.1 + gf.2.2.size) * L:=hsfg gf.2.2 (by rw [hfv,if_neg hz])
     have HS2:=HS gf.2.2 hys
     have hzx2:=hzx gf.2.2
     have hy3 : gf.2.2.size <= 1280000:=by omega
     clear hfd hfv hst hsf hsfg hstep HSTEP hdrop hf hR hrow hown hp c0 c1 c2 c3 hz hsum HS hys hKK
     go_wp2_with (first | (go_at_call 122;refine (hstc _).mono ?_;rintro e w1 ⟨rfl,hb1⟩;obtain ⟨hc1,hf1⟩:=zal hb1))
     go_roundw
     case rel => exact ⟨x + 1,_,by omega,by go_num,rfl,hzx2,hr',HS2,(hb.trans (hb1.mono hb.size)).alloc (Nat.le_trans hb.size hb1.size) _⟩
     case measure => simp [intOf];omega
   | some pf =>
    rw [hfd] at hstc
    have hfv : zbi (rdT m) (fs.zip vs) gf = rdT m pf.1.2.1 gf.2.1 pf.2:=by unfold zbi;rw [hfd]
    have hvk : okV nw pf.1.2.1 pf.2:=HO.out pf (zj6 hfd)
    have hseen:=fun (w : World) (a q kq : Nat) (h1 : At d a (datV nw pf.2)) (h2 : zac true s nw q = some (pf.1.2.1,kq)) (h3 : s.size <= q + nw) => IH nw nr q p a pf.1.2.1 gf.2.1 kq kp pf.2 w hm hnw hnr h2 h3 hp hpn hvk h1 hwf
    cases hy : rdT m pf.1.2.1 gf.2.1 pf.2 with
    | none =>
     have hr' : Hid (R = none):=hstep none (by rw [hfv,hy])
     rw [hy] at hseen
     clear hfd hfv hst hsf hsfg hstep HSTEP hdrop hf hR hrow hown c0 c1 c2 c3 hsum HS hKK hy hvk
     go_wp2_with (first | (go_at_call 122;refine (hstc _).mono ?_;rintro e w1 ⟨⟨a,q,kq,rfl,ha,hq,hqn⟩,hb1⟩;obtain ⟨hc1,hf1⟩:=zal hb1) | (go_at_call 79;refine (hseen _ _ _ _ ha hq hqn).mono ?_;rintro e w2 ⟨⟨z,rfl⟩,hb2⟩;obtain ⟨hc2,hf2⟩:=zal hb2))
     go_ret2
     rw [hr'.out]
     exact ⟨rfl,(hbw.trans (hb1.mono hbw.size)).trans (hb2.mono (Nat.le_trans hbw.size hb1.size))⟩
    | some z =>
     have hr' : Hid (R = zco (zbi (rdT m) (fs.zip vs)) (gs.drop (x + 1)) ((((u ++ ⟨#[44]⟩) ++ oneB gf.1) ++ ⟨#[58]⟩) ++ z)):=hstep (some z) (by rw [hfv,hy])
     have hys : z.size <= (wt m gf.2.1 + gf.2.2.size) * L:=hsfg z (by rw [hfv,hy])
     have HS2:=HS z hys
     have hzx2:=hzx z
     have hy3 : z.size <= 1280000:=by omega
     rw [hy] at hseen
     clear hfd hfv hst hsf hsfg hstep HSTEP hdrop hf hR hrow hown c0 c1 c2 c3 hsum HS hKK hy hvk hys
     go_wp2_with (first | (go_at_call 122;refine (hstc _).mono ?_;rintro e w1 ⟨⟨a,q,kq,rfl,ha,hq,hqn⟩,hb1⟩;obtain ⟨hc1,hf1⟩:=zal hb1) | (go_at_call 79;refine (hseen _ _ _ _ ha hq hqn).mono ?_;rintro e w2 ⟨rfl,hb2⟩;obtain ⟨hc2,hf2⟩:=zal hb2;have hg1 : g < w1.heap.size:=(Nat.lt_of_lt_of_le hg' hb1.size)))
     go_roundw
     case rel => exact ⟨x + 1,_,by omega,by go_num,rfl,hzx2,hr',HS2,((hb.trans (hb1.mono hb.size)).trans (hb2.mono (Nat.le_trans hb.size hb1.size))).alloc (Nat.le_trans hb.size (Nat.le_trans hb1.size hb2.size)) _⟩
     case measure => simp [intOf];omega
  ·have hnil : gs.drop x = []:=List.drop_of_length_le (by omega)
   have hr' : Hid (R = some u):=by show _ = _;rw [hR.out,hnil,zco]
   have hu1 : 1 <= u.size:=by omega
   have hue:=zkq hu1
   have hsx:=size_extract u 1 u.size hu1 (Nat.le_refl _)
   clear hR hnil hst hsf hsz
   go_wp2_with fail
   go_ret2
   rw [hr'.out]
   exact ⟨rfl,hbf0.trans (hb.mono hbf0.size)⟩
end
section
open Go.RowKit
def SR (b : Bool) (q : ByteArray -> Prop) (e : Ending) : Prop:=∃ z : ByteArray,e = .returned (.tuple #[.string z,.bool b]) /\ q z
theorem zsk {o : Option ByteArray} {e : Ending} (h : SRet o e) : SR o.isSome (fun z => ∀ t,o = some t -> z = t) e:=by
 cases o with
 | none => obtain ⟨z,h⟩:=h;exact ⟨z,h,fun t h => by cases h⟩
 | some t => exact ⟨t,h,fun u h => by cases h;rfl⟩
theorem zsl {o : Option ByteArray} {e : Ending} (h : SR o.isSome (fun z => ∀ t,o = some t -> z = t) e) : SRet o e:=by
 obtain ⟨z,h1,h2⟩:=h
 cases o with
 | none => exact ⟨z,h1⟩
 | some t => obtain rfl:=h2 t rfl;exact h1
theorem zyu {s t d : ByteArray} (i k j : Nat) (hi : i < s.size) (hk : k < t.size) (hj : j < d.size) (_hs : s.size <= 9000000) (_ht : t.size <= 9000000) (_hd : d.size <= 9000000) (w : World)
  (hA : s[i].toNat = 63) (hC : d[j].toNat = 0) :
  Calls Tryz.prog 79 #[.string s,.int .i64 i,.string t,.int .i64 k,.string d,.int .i64 j] w fun e w' => SR ((t[k].toNat : Int) == 63) (fun z => z = ⟨#[95]⟩) e /\ Below w.heap.size w w':=by
 go_enter Tryz.func79,Tryz.ntmps79
 go_wp2_with fail
 go_ret2
 exact ⟨⟨_,rfl,rfl⟩,Below.refl _ _⟩
theorem zyp {s t d : ByteArray} (i k j : Nat) (hi : i < s.size) (hk : k < t.size) (hj : j < d.size) (_hs : s.size <= 9000000) (_ht : t.size <= 9000000) (_hd : d.size <= 9000000) (w : World)
  (hA : s[i].toNat = 63) (hB : t[k].toNat = 63) (hC : ((d[j].toNat : Int) == 0) = false) (b : Bool) (q : ByteArray -> Prop) (hcall : ∀ w,Calls Tryz.prog 79 #[.string s,.int .i64 ((i : Int) + 1),.string t,.int .i64 ((k : Int) + 1),.string d,.int .i64 ((j : Int) + 1)] w fun e w' => SR b q e /\ Below w.heap.size w w') :
  Calls Tryz.prog 79 #[.string s,.int .i64 i,.string t,.int .i64 k,.string d,.int .i64 j] w fun e w' => SR b q e /\ Below w.heap.size w w':=by
 go_enter Tryz.func79,Tryz.ntmps79
 go_wp2_with (first | (go_at_call 79;refine (hcall _).mono ?_;rintro e w1 ⟨⟨z,rfl,hz⟩,hb1⟩))
 go_ret2
 exact ⟨⟨z,rfl,hz⟩,hb1⟩
theorem zy1 {s t d : ByteArray} (i k j : Nat) (hi : i < s.size) (hk : k < t.size) (hj : j < d.size) (_hs : s.size <= 9000000) (_ht : t.size <= 9000000) (_hd : d.size <= 9000000) (w : World)
  (hA : s[i].toNat = 63) (hB : ((t[k].toNat : Int) == 63) = false) (hC : ((d[j].toNat : Int) == 0) = false) (b : Bool) (q : ByteArray -> Prop) (hcall : ∀ w,Calls Tryz.prog 79 #[.string s,.int .i64 ((i : Int) + 1),.string t,.int .i64 k,.string d,.int .i64 ((j : Int) + 1)] w fun e w' => SR b q e /\ Below w.heap.size w w') :
  Calls Tryz.prog 79 #[.string s,.int .i64 i,.string t,.int .i64 k,.string d,.int .i64 j] w fun e w' => SR b q e /\ Below w.heap.size w w':=by
 go_enter Tryz.func79,Tryz.ntmps79
 go_wp2_with (first | (go_at_call 79;refine (hcall _).mono ?_;rintro e w1 ⟨⟨z,rfl,hz⟩,hb1⟩))
 go_ret2
 exact ⟨⟨z,rfl,hz⟩,hb1⟩
theorem zyw {s t d : ByteArray} (i k j : Nat) (hi : i < s.size) (hk : k < t.size) (hj : j < d.size) (_hs : s.size <= 9000000) (_ht : t.size <= 9000000) (_hd : d.size <= 9000000) (w : World)
  (hA : ((s[i].toNat : Int) == 63) = false) (hB : t[k].toNat = 63) (b : Bool) (q : ByteArray -> Prop) (hcall : ∀ w,Calls Tryz.prog 79 #[.string s,.int .i64 i,.string t,.int .i64 ((k : Int) + 1),.string d,.int .i64 j] w fun e w' => SR b q e /\ Below w.heap.size w w') :
  Calls Tryz.prog 79 #[.string s,.int .i64 i,.string t,.int .i64 k,.string d,.int .i64 j] w fun e w' => SR b q e /\ Below w.heap.size w w':=by
 go_enter Tryz.func79,Tryz.ntmps79
 go_wp2_with (first | (go_at_call 79;refine (hcall _).mono ?_;rintro e w1 ⟨⟨z,rfl,hz⟩,hb1⟩))
 go_ret2
 exact ⟨⟨z,rfl,hz⟩,hb1⟩
theorem zyy {s t d : ByteArray} (i k j : Nat) (hi : i < s.size) (hk : k < t.size) (hj : j < d.size) (_hs : s.size <= 9000000) (_ht : t.size <= 9000000) (_hd : d.size <= 9000000) (w : World)
  (hA : s[i].toNat = 105) (hB : t[k].toNat = 108) (T : ByteArray) (m : Nat) (hcall : ∀ w,Calls Tryz.prog 97 #[.string s,.int .i64 i,.string d,.int .i64 j] w fun e w' => e = .returned (.tuple #[.string T,.int .i64 m]) /\ Below w.heap.size w w') :
  Calls Tryz.prog 79 #[.string s,.int .i64 i,.string t,.int .i64 k,.string d,.int .i64 j] w fun e w' => SR true (fun z => z = T) e /\ Below w.heap.size w w':=by
 go_enter Tryz.func79,Tryz.ntmps79
 have hm : (m : Int) ≥ 0:=by omega
 go_wp2_with (first | (go_at_call 97;refine (hcall _).mono ?_;rintro e w1 ⟨rfl,hb1⟩))
 go_ret2
 exact ⟨⟨T,rfl,rfl⟩,hb1⟩
theorem zyx {s t d : ByteArray} (i k j : Nat) (hi : i < s.size) (hk : k < t.size) (hj : j < d.size) (_hs : s.size <= 9000000) (_ht : t.size <= 9000000) (_hd : d.size <= 9000000) (w : World)
  (hA : s[i].toNat = 105) (hB : t[k].toNat = 105) (T : ByteArray) (m : Nat) (hcall : ∀ w,Calls Tryz.prog 97 #[.string s,.int .i64 i,.string d,.int .i64 j] w fun e w' => e = .returned (.tuple #[.string T,.int .i64 m]) /\ Below w.heap.size w w') :
  Calls Tryz.prog 79 #[.string s,.int .i64 i,.string t,.int .i64 k,.string d,.int .i64 j] w fun e w' => SR true (fun z => z = T) e /\ Below w.heap.size w w':=by
 go_enter Tryz.func79,Tryz.ntmps79
 have hm : (m : Int) ≥ 0:=by omega
 go_wp2_with (first | (go_at_call 97;refine (hcall _).mono ?_;rintro e w1 ⟨rfl,hb1⟩))
 go_ret2
 exact ⟨⟨T,rfl,rfl⟩,hb1⟩
theorem zyz {s t d : ByteArray} (i k j : Nat) (hi : i < s.size) (hk : k < t.size) (hj : j < d.size) (_hs : s.size <= 9000000) (_ht : t.size <= 9000000) (_hd : d.size <= 9000000) (w : World)
  (hA : s[i].toNat = 108) (hB : t[k].toNat = 108) (T : ByteArray) (m : Nat) (hcall : ∀ w,Calls Tryz.prog 97 #[.string s,.int .i64 i,.string d,.int .i64 j] w fun e w' => e = .returned (.tuple #[.string T,.int .i64 m]) /\ Below w.heap.size w w') :
  Calls Tryz.prog 79 #[.string s,.int .i64 i,.string t,.int .i64 k,.string d,.int .i64 j] w fun e w' => SR true (fun z => z = T) e /\ Below w.heap.size w w':=by
 go_enter Tryz.func79,Tryz.ntmps79
 have hm : (m : Int) ≥ 0:=by omega
 go_wp2_with (first | (go_at_call 97;refine (hcall _).mono ?_;rintro e w1 ⟨rfl,hb1⟩))
 go_ret2
 exact ⟨⟨T,rfl,rfl⟩,hb1⟩
theorem zy0 {s t d : ByteArray} (i k j : Nat) (hi : i < s.size) (hk : k < t.size) (hj : j < d.size) (_hs : s.size <= 9000000) (_ht : t.size <= 9000000) (_hd : d.size <= 9000000) (w : World)
  (hA : s[i].toNat = 115) (hB : t[k].toNat = 115) (T : ByteArray) (m : Nat) (hcall : ∀ w,Calls Tryz.prog 97 #[.string s,.int .i64 i,.string d,.int .i64 j] w fun e w' => e = .returned (.tuple #[.string T,.int .i64 m]) /\ Below w.heap.size w w') :
  Calls Tryz.prog 79 #[.string s,.int .i64 i,.string t,.int .i64 k,.string d,.int .i64 j] w fun e w' => SR true (fun z => z = T) e /\ Below w.heap.size w w':=by
 go_enter Tryz.func79,Tryz.ntmps79
 have hm : (m : Int) ≥ 0:=by omega
 go_wp2_with (first | (go_at_call 97;refine (hcall _).mono ?_;rintro e w1 ⟨rfl,hb1⟩))
 go_ret2
 exact ⟨⟨T,rfl,rfl⟩,hb1⟩
theorem zys {s t d : ByteArray} (i k j : Nat) (hi : i < s.size) (hk : k < t.size) (hj : j < d.size) (_hs : s.size <= 9000000) (_ht : t.size <= 9000000) (_hd : d.size <= 9000000) (w : World)
  (hA : s[i].toNat = 105) (h1 : ((t[k].toNat : Int) == 63) = false) (h2 : ((t[k].toNat : Int) == 108) = false) (h3 : ((105 : Int) == (t[k].toNat : Int)) = false) (h4 : ((105 : Int) != (t[k].toNat : Int)) = true) :
  Calls Tryz.prog 79 #[.string s,.int .i64 i,.string t,.int .i64 k,.string d,.int .i64 j] w fun e w' => SR false (fun _ => True) e /\ Below w.heap.size w w':=by
 go_enter Tryz.func79,Tryz.ntmps79
 go_wp2_with fail
 go_ret2
 exact ⟨⟨_,rfl,trivial⟩,Below.refl _ _⟩
theorem zyt {s t d : ByteArray} (i k j : Nat) (hi : i < s.size) (hk : k < t.size) (hj : j < d.size) (_hs : s.size <= 9000000) (_ht : t.size <= 9000000) (_hd : d.size <= 9000000) (w : World)
  (h0 : ((s[i].toNat : Int) == 63) = false) (h1 : ((t[k].toNat : Int) == 63) = false) (h2 : ((s[i].toNat : Int) == 105) = false) (h3 : ((s[i].toNat : Int) == (t[k].toNat : Int)) = false) (h4 : ((s[i].toNat : Int) != (t[k].toNat : Int)) = true) :
  Calls Tryz.prog 79 #[.string s,.int .i64 i,.string t,.int .i64 k,.string d,.int .i64 j] w fun e w' => SR false (fun _ => True) e /\ Below w.heap.size w w':=by
 go_enter Tryz.func79,Tryz.ntmps79
 go_wp2_with fail
 go_ret2
 exact ⟨⟨_,rfl,trivial⟩,Below.refl _ _⟩
theorem zyq {s t d : ByteArray} (i k j : Nat) (hi : i < s.size) (hk : k < t.size) (hj : j < d.size) (_hs : s.size <= 9000000) (_ht : t.size <= 9000000) (_hd : d.size <= 9000000) (w : World)
  (hA : s[i].toNat = 60) (hB : t[k].toNat = 60) (l : ByteArray) (hl8 : l.size <= 8) (hlx : d[j].toNat < l.size) (b : Bool) (q : ByteArray -> Prop) (hl : ∀ w,Calls Tryz.prog 91 #[.string s,.int .i64 i] w fun e w' => e = .returned (.string l) /\ w = w') (hcall : ∀ w,Calls Tryz.prog 98 #[.int .u8 (l[d[j].toNat]'hlx).toNat,.string t,.int .i64 k] w fun e w' => SR b q e /\ Below w.heap.size w w') :
  Calls Tryz.prog 79 #[.string s,.int .i64 i,.string t,.int .i64 k,.string d,.int .i64 j] w fun e w' => SR b q e /\ Below w.heap.size w w':=by
 go_enter Tryz.func79,Tryz.ntmps79
 have hlx' : (d[j].toNat : Int) < (l.size : Int):=by omega
 go_wp2_with (first | (go_at_call 91;refine (hl _).mono ?_;rintro e _ ⟨rfl,rfl⟩) | (go_at_call 98;refine (hcall _).mono ?_;rintro e w1 ⟨⟨z,rfl,hz⟩,hb1⟩))
 go_ret2
 exact ⟨⟨z,rfl,hz⟩,hb1⟩
theorem zyr {s t d : ByteArray} (i k j : Nat) (hi : i < s.size) (hk : k < t.size) (hj : j < d.size) (_hs : s.size <= 9000000) (_ht : t.size <= 9000000) (_hd : d.size <= 9000000) (w : World)
  (hA : s[i].toNat = 91) (hB : t[k].toNat = 91) (b : Bool) (q : ByteArray -> Prop) (hcall : ∀ w,Calls Tryz.prog 99 #[.string s,.int .i64 ((i : Int) + 1),.string t,.int .i64 ((k : Int) + 1),.string d,.int .i64 j] w fun e w' => SR b q e /\ Below w.heap.size w w') :
  Calls Tryz.prog 79 #[.string s,.int .i64 i,.string t,.int .i64 k,.string d,.int .i64 j] w fun e w' => SR b q e /\ Below w.heap.size w w':=by
 go_enter Tryz.func79,Tryz.ntmps79
 go_wp2_with (first | (go_at_call 99;refine (hcall _).mono ?_;rintro e w1 ⟨⟨z,rfl,hz⟩,hb1⟩))
 go_ret2
 exact ⟨⟨z,rfl,hz⟩,hb1⟩
theorem zyv {s t d : ByteArray} (i k j : Nat) (hi : i < s.size) (hk : k < t.size) (hj : j < d.size) (_hs : s.size <= 9000000) (_ht : t.size <= 9000000) (_hd : d.size <= 9000000) (w : World)
  (hA : s[i].toNat = 123) (hB : t[k].toNat = 123) (b : Bool) (q : ByteArray -> Prop) (hcall : ∀ w,Calls Tryz.prog 100 #[.string s,.int .i64 i,.string t,.int .i64 k,.string d,.int .i64 j] w fun e w' => SR b q e /\ Below w.heap.size w w') :
  Calls Tryz.prog 79 #[.string s,.int .i64 i,.string t,.int .i64 k,.string d,.int .i64 j] w fun e w' => SR b q e /\ Below w.heap.size w w':=by
 go_enter Tryz.func79,Tryz.ntmps79
 go_wp2_with (first | (go_at_call 100;refine (hcall _).mono ?_;rintro e w1 ⟨⟨z,rfl,hz⟩,hb1⟩))
 go_ret2
 exact ⟨⟨z,rfl,hz⟩,hb1⟩
end
end Go.Proofs.YtkkekopomiehlaaGreat
