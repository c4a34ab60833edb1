import Derived.Test.YtkkekopomiehlaaGreatCSn6
set_option linter.unusedVariables false
set_option linter.unusedSimpArgs false
set_option maxHeartbeats 40000000
set_option maxRecDepth 4000
namespace Go.Proofs.YtkkekopomiehlaaGreat
section
open Go.RowKit
def SmIs (n : Nat) (s : ByteArray) (D : Ty -> List ByteArray) : Prop:=∀ (p : Nat) (ty : Ty) (k : Nat) (w : World),zac true s n p = some (ty,k) -> s.size <= p + n -> wt n ty <= 20000 ->
 Calls Tryz.prog 78 #[.string s,.int .i64 p] w fun e w' => ∃ g cap,e = .returned (.slice (some ⟨g,0,none⟩) (D ty).length cap) /\ w'.ownsRow w.heap.size 9 1 (.slice (some ⟨g,0,none⟩) (D ty).length cap) (D ty).length ((D ty).map .string) /\ Below w.heap.size w w'
theorem ztg (Y : List ByteArray) (x : Nat) : (catB (Y.take x)).size <= (catB Y).size:=by
 have:=congrArg ByteArray.size (zfb (Y.take x) (Y.drop x));rw [List.take_append_drop,ByteArray.size_append] at this;omega
theorem zmi (Y : List ByteArray) (x : Nat) : (catB (Y.drop x)).size <= (catB Y).size:=by
 have:=congrArg ByteArray.size (zfb (Y.take x) (Y.drop x));rw [List.take_append_drop,ByteArray.size_append] at this;omega
theorem zmj {Y : List ByteArray} {c : Nat} {y : ByteArray} (h : Y[c]? = some y) : catB (Y.take (c + 1)) = catB (Y.take c) ++ y:=by
 rw [List.take_add_one,h,zfb];simp [catB]
theorem zt4 {Y : List ByteArray} {c x : Nat} {y : ByteArray} (h : Y[c]? = some y) (hx : x < c) : catB ((Y.take (c + 1)).drop (x + 1)) = catB ((Y.take c).drop (x + 1)) ++ y:=by
 have hl : c < Y.length:=(List.getElem?_eq_some_iff.1 h).1
 rw [List.take_add_one,h,List.drop_append_of_le_length (by rw [List.length_take];omega),zfb];simp [catB]
theorem zm9 {Y : List ByteArray} {c x : Nat} (hx : c <= x + 1) : catB ((Y.take c).drop (x + 1)) = ByteArray.empty:=by
 rw [List.drop_of_length_le (by rw [List.length_take];omega)];rfl
theorem yaag {D : Ty -> List ByteArray} {Y : List ByteArray} {f : Nat × Ty × ByteArray} {fs : List (Nat × Ty × ByteArray)} {x : Nat} (h : fs.drop x = f :: fs.drop (x + 1)) :
  trD D Y (fs.drop x) x = (D f.2.1).map (fun d => (catB (Y.take x) ++ d) ++ catB (Y.drop (x + 1))) ++ trD D Y (fs.drop (x + 1)) (x + 1):=by rw [h,trD]
theorem yaah {n : Nat} {s : ByteArray} (IS : zjf n s) {D : Ty -> List ByteArray} (IM : SmIs n s D) (hs : s.size <= 4096) (i : Nat) {fs : List (Nat × Ty × ByteArray)} {k0 : Nat} (hfl : fs.length <= 4096)
  (hF0 : ∀ w,Calls Tryz.prog 94 #[.string s,.int .i64 i] w fun e w' => GRet w.heap.size n s (some (fs,k0)) e w' /\ Below w.heap.size w w') (hwt : ∀ f ∈ fs,wt n f.2.1 <= 20000)
  {Y : List ByteArray} (hY : Y = fs.map fun f => datV n (lv n f.2.1)) (hYs : (catB Y).size <= 20000) (hD : ∀ f ∈ fs,∀ d ∈ D f.2.1,d.size <= 20000) (hDl : (trD D Y fs 0).length <= 20000) (w : World) :
  Calls Tryz.prog 96 #[.string s,.int .i64 i] w fun e w' => SmR w.heap.size (trD D Y fs 0) e w' /\ Below w.heap.size w w':=by
 have hF : ∀ w,Calls Tryz.prog 94 #[.string s,.int .i64 i] w fun e w' => ∃ g cap xs,e = .returned (.tuple #[.slice (some ⟨g,0,none⟩) fs.length cap,.int .i64 k0]) /\ w'.ownsRow w.heap.size 176 4 (.slice (some ⟨g,0,none⟩) fs.length cap) fs.length xs /\ RowR n s xs fs /\ Below w.heap.size w w':=fun w => by
  refine (hF0 w).mono ?_
  rintro e w' ⟨⟨g,cap,xs,h1,h2,h3⟩,h4⟩
  exact ⟨g,cap,xs,h1,h2,h3,h4⟩
 have hYl : ∀ (x : Nat) (f : Nat × Ty × ByteArray),fs[x]? = some f -> Y[x]? = some (datV n (lv n f.2.1)):=fun x f h => by rw [hY,List.getElem?_map,h];rfl
 obtain ⟨R,hR⟩ : ∃ R,R = trD D Y fs 0:=⟨_,rfl⟩
 rw [<- hR] at hDl ⊢
 obtain ⟨ii,hii,hz0,hzz1,hzz2⟩:=info_parts Tryz.infoStrS
 have HR : Hid (R = [] ++ trD D Y (fs.drop 0) 0):=by show _ = _;rw [hR];rfl
 have hYt:=ztg Y
 have hYd:=zmi Y
 have hYlen : Y.length = fs.length:=by rw [hY,List.length_map]
 clear hF0 hR hY
 go_enter Tryz.func96,Tryz.ntmps96
 go_wp2_with (go_at_call 94;refine (hF _).mono ?_;rintro e wf ⟨g,cap,xs,rfl,hown0,hrow,hbf0⟩)
 go_loopw [5,8] (fun vl vn wr => ∃ (x : Nat) (done : List ByteArray),x <= fs.length /\ vn = .int .i64 x /\ Hid (R = done ++ trD D Y (fs.drop x) x) /\ wr.ownsRow wf.heap.size 9 1 vl done.length (done.map .string) /\ Below wf.heap.size wf wr) (fun _ x _ => fs.length - (intOf x).toNat)
 case atStart => exact ⟨0,[],Nat.zero_le _,rfl,HR,World.ownsRow_nil _ _ _ _,Below.refl _ _⟩
 case round =>
  obtain ⟨x,done,hx0,rfl,hR,hown,hb⟩:=hrel
  by_cases hlt : x < fs.length
  ·obtain ⟨f,hf⟩ : ∃ f,fs[x]? = some f:=⟨fs[x],List.getElem?_eq_getElem hlt⟩
   have hdrop : fs.drop x = f :: fs.drop (x + 1):=by
    rw [List.drop_eq_getElem_cons hlt];rw [List.getElem?_eq_getElem hlt] at hf;simp at hf;rw [hf]
   have hfm : f ∈ fs:=List.mem_of_getElem? hf
   obtain ⟨p,kp,hp,hpn,h256,c0,c1,c2,c3⟩:=hrow.2 x f hf
   have k1:=zaa hb (zaq hown0 c1)
   have hg' : g < wr.heap.size:=zaf k1
   have hcall:=fun w => IM p f.2.1 kp w hp hpn (hwt f hfm)
   have hds:=hD f hfm
   obtain ⟨ds,hdsd⟩ : ∃ ds,ds = D f.2.1:=⟨_,rfl⟩
   rw [<- hdsd] at hcall hds
   have hr' : Hid (R = done ++ (ds.map (fun d => (catB (Y.take x) ++ d) ++ catB (Y.drop (x + 1))) ++ trD D Y (fs.drop (x + 1)) (x + 1))):=by show _ = _;rw [hR.out,yaag hdrop,hdsd]
   clear hf c0 c1 c2 c3 hdrop hR hp hdsd hfm
   go_wp2_with (go_at_call 78;refine (hcall _).mono ?_;rintro e w1 ⟨gm,cm,rfl,hm,hb1⟩)
   go_loopw [10,11,12] (fun vh vt vc wq => ∃ c : Nat,c <= fs.length /\ vc = .int .i64 c /\ vh = .string (catB (Y.take (min c x))) /\ vt = .string (catB ((Y.take c).drop (x + 1))) /\ Below w1.heap.size w1 wq) (fun _ _ c _ => fs.length - (intOf c).toNat)
   case atStart => exact ⟨0,Nat.zero_le _,rfl,by simp [catB];rfl,by simp [catB];rfl,Below.refl _ _⟩
   case round =>
    obtain ⟨c,hc0,rfl,rfl,rfl,hbq⟩:=hrel
    have k1q:=zaa hbq (zaa hb1 k1)
    by_cases hcl : c < fs.length
    ·obtain ⟨f',hf'⟩ : ∃ f',fs[c]? = some f':=⟨fs[c],List.getElem?_eq_getElem hcl⟩
     have hfm' : f' ∈ fs:=List.mem_of_getElem? hf'
     obtain ⟨p',kp',hp',hpn',h256',c0,c1,c2,c3⟩:=hrow.2 c f' hf'
     have j1:=zaa hbq (zaa hb1 (zaa hb (zaq hown0 c1)))
     have hgq : g < wr.heap.size:=zaf j1
     have hcs:=fun w => IS p' w f'.2.1 kp' hp' hpn' (hwt f' hfm')
     have hyl:=hYl c f' hf'
     obtain ⟨y,hy⟩ : ∃ y,y = datV n (lv n f'.2.1):=⟨_,rfl⟩
     rw [<- hy] at hcs hyl
     have h1:=hYt (c + 1)
     rw [zmj hyl,ByteArray.size_append] at h1
     have h2:=hYt (min c x)
     have h3 : (catB ((Y.take c).drop (x + 1))).size <= 20000:=Nat.le_trans (zmi _ _) (Nat.le_trans (hYt c) hYs)
     have h4 : y.size <= 20000:=by omega
     have h5 : (catB (Y.take (min c x))).size <= 20000:=by omega
     have e1 : c < x -> catB (Y.take (min (c + 1) x)) = catB (Y.take (min c x)) ++ y:=fun h => by rw [Nat.min_eq_left (by omega),Nat.min_eq_left (by omega),zmj hyl]
     have e2 : ¬ c < x -> min (c + 1) x = min c x:=fun h => by omega
     have e3 : x < c -> catB ((Y.take (c + 1)).drop (x + 1)) = catB ((Y.take c).drop (x + 1)) ++ y:=fun h => zt4 hyl h
     have e4 : ¬ x < c -> catB ((Y.take (c + 1)).drop (x + 1)) = catB ((Y.take c).drop (x + 1)):=fun h => by rw [zm9 (by omega),zm9 (by omega)]
     clear c0 c1 c2 c3 hf' hfm' hp' hyl hy h1 h2 hYl
     obtain ⟨H,hH⟩ : ∃ H,H = catB (Y.take (min c x)):=⟨_,rfl⟩
     obtain ⟨T,hT⟩ : ∃ T,T = catB ((Y.take c).drop (x + 1)):=⟨_,rfl⟩
     rw [<- hH] at e1 h5 ⊢
     rw [<- hT] at e3 e4 h3 ⊢
     have HH : Hid (H = catB (Y.take (min c x))):=hH
     clear hH hT
     rcases Nat.lt_trichotomy c x with hcx | hcx | hcx
     ·have e1':=e1 hcx
      have e4':=e4 (by omega)
      clear e1 e2 e3 e4
      clear IS IM hF hrow hown0 hown hm hwt hD hDl hds hcall hr' HR hYlen hYs hii hz0 hzz1 hzz2 hbf0 k1 hb hb1 hg' k1q
      have hcx' : (c : Int) < (x : Int):=by omega
      have hcx2 : ¬ (x : Int) < (c : Int):=by omega
      have hcx3 : ¬ x < c:=by omega
      go_wp2_with (go_at_call 116;refine (hcs _).mono ?_;rintro e w2 ⟨rfl,hb2⟩)
      go_roundw
      case rel => exact ⟨c + 1,by omega,by go_num,by rw [e1'],by rw [e4'],hbq.trans (hb2.mono hbq.size)⟩
      case measure => simp [intOf];omega
     ·have e2':=e2 (by omega)
      have e4':=e4 (by omega)
      clear e1 e2 e3 e4
      clear IS IM hF hrow hown0 hown hm hwt hD hDl hds hcall hr' HR hYlen hYs hii hz0 hzz1 hzz2 hbf0 k1 hb hb1 hg' k1q
      have hcx2 : ¬ (c : Int) < (x : Int):=by omega
      have hcx3 : ¬ (x : Int) < (c : Int):=by omega
      have hcx4 : ¬ c < x:=by omega
      have hcx5 : ¬ x < c:=by omega
      clear hcx
      go_wp2_with (go_at_call 116;refine (hcs _).mono ?_;rintro e w2 ⟨rfl,hb2⟩)
      go_roundw
      case rel => exact ⟨c + 1,by omega,by go_num,by rw [e2',HH.out],by rw [e4'],hbq.trans (hb2.mono hbq.size)⟩
      case measure => simp [intOf];omega
     ·have e2':=e2 (by omega)
      have e3':=e3 hcx
      clear e1 e2 e3 e4
      clear IS IM hF hrow hown0 hown hm hwt hD hDl hds hcall hr' HR hYlen hYs hii hz0 hzz1 hzz2 hbf0 k1 hb hb1 hg' k1q
      have hcx' : (x : Int) < (c : Int):=by omega
      have hcx2 : ¬ (c : Int) < (x : Int):=by omega
      have hcx3 : ¬ c < x:=by omega
      go_wp2_with (go_at_call 116;refine (hcs _).mono ?_;rintro e w2 ⟨rfl,hb2⟩)
      go_roundw
      case rel => exact ⟨c + 1,by omega,by go_num,by rw [e2',HH.out],by rw [e3'],hbq.trans (hb2.mono hbq.size)⟩
      case measure => simp [intOf];omega
    ·have hce : c = fs.length:=by omega
     subst hce
     have eh : catB (Y.take (min fs.length x)) = catB (Y.take x):=by rw [Nat.min_eq_right (by omega)]
     have et : catB ((Y.take fs.length).drop (x + 1)) = catB (Y.drop (x + 1)):=by rw [List.take_of_length_le (by omega)]
     rw [eh,et]
     have hzh : (catB (Y.take x)).size <= 20000:=Nat.le_trans (hYt x) hYs
     have hzt : (catB (Y.drop (x + 1))).size <= 20000:=Nat.le_trans (hYd (x + 1)) hYs
     obtain ⟨H,hH⟩ : ∃ H,H = catB (Y.take x):=⟨_,rfl⟩
     obtain ⟨T,hT⟩ : ∃ T,T = catB (Y.drop (x + 1)):=⟨_,rfl⟩
     rw [<- hH] at hr' hzh ⊢
     rw [<- hT] at hr' hzt ⊢
     have HH : Hid (H = catB (Y.take x)):=hH
     have HT : Hid (T = catB (Y.drop (x + 1))):=hT
     clear hH hT
     have hzw:=hb.size
     have hz1:=hb1.size
     have hzq:=hbq.size
     have hownq:=zbc (zbc hown hb1) (hbq)
     have hmq : ∀ (j : Nat) (d : ByteArray),ds[j]? = some d -> wr.cell? ⟨gm,j,none⟩ = some (.string d):=fun j d hj => zaa hbq (zaq hm (i:=j) (v:=.string d) (by rw [List.getElem?_map,hj];rfl))
     have hgm:=hm.lt gm rfl
     have hgne : some gm ≠ u5.ownBlock:=fun h => by have:=(hown.lt gm h.symm).2;omega
     have hbw : Below wf.heap.size wf wr:=(hb.trans (hb1.mono hzw)).trans (hbq.mono (by omega))
     have hdl : done.length + ds.length <= 20000:=by have:=congrArg List.length hr'.out;rw [List.length_append,List.length_append,List.length_map] at this;omega
     clear eh et k1q hYl hYt hYd
     go_wp2_with fail
     go_loopw [5,14] (fun vl vc wz => ∃ c : Nat,c <= ds.length /\ vc = .int .i64 c /\ wz.ownsRow wf.heap.size 9 1 vl (done.length + c) ((done ++ (ds.take c).map fun d => (H ++ d) ++ T).map .string) /\
      (∀ (j : Nat) (d : ByteArray),ds[j]? = some d -> wz.cell? ⟨gm,j,none⟩ = some (.string d)) /\ some gm ≠ vl.ownBlock /\ gm < wz.heap.size /\ Below wf.heap.size wf wz) (fun _ c _ => ds.length - (intOf c).toNat)
     case atStart => exact ⟨0,Nat.zero_le _,rfl,by rw [List.take_zero,List.map_nil,List.append_nil];exact hownq,hmq,hgne,by omega,hbw⟩
     case round =>
      obtain ⟨c,hc0,rfl,hownz,hmz,hgnz,hgz,hbz⟩:=hrel
      have hlow : ∀ k,u5.ownBlock = some k -> wf.heap.size <= k /\ k < wr.heap.size:=fun k h => hownz.lt k h
      have hzz:=hbz.size
      by_cases hcl : c < ds.length
      ·obtain ⟨d,hd⟩ : ∃ d,ds[c]? = some d:=⟨ds[c],List.getElem?_eq_getElem hcl⟩
       have hdz:=hds d (List.mem_of_getElem? hd)
       have k4:=hmz c d hd
       have HM : Hid (∀ (j : Nat) (d : ByteArray),ds[j]? = some d -> wr.cell? ⟨gm,j,none⟩ = some (.string d)):=hmz
       clear hmz
       have hsn : (ds.take (c + 1)).map (fun d => (H ++ d) ++ T) = (ds.take c).map (fun d => (H ++ d) ++ T) ++ [(H ++ d) ++ T]:=by rw [List.take_add_one,hd,List.map_append];rfl
       have hHd : (H ++ d).size <= 40000:=by rw [ByteArray.size_append];omega
       have hx0' := znn c
       have hx1' : (c : Int) < (ds.length : Int):=by omega
       clear hd hr' hown hownq hm hmq hrow hown0 hcall hds IS IM hF hwt hD hDl HR hb1 hbq hb hbf0 hbw k1 hgm hgne
       go_wp2_with (at_builtin;refine wpList_append_lies _ rfl _ _ _ rfl wf.heap.size 9 ii _ 1 16 Tryz.underlying22 hii hz0 hzz1 hzz2 rfl (by omega) u5 (done.length + c) _ rfl (hownz.alloc _) ⟨wr.heap.size,0,none⟩ 1 1 [.string ((H ++ d) ++ T)] rfl rfl (World.news_of_block (heap_alloc_new wr _)) (by simp [Value.oneCell']) (by omega) (by unfold maxLen;omega) (by omega) (by simp;omega) (wr.heap.size + 1) (by simp) ?_;intro g' cap' w5 hown' hgrow hat hlt3)
       go_roundw
       case rel => exact ⟨c + 1,by omega,by go_num,by rw [hsn,<- List.append_assoc,List.map_append];exact hown',fun j e hj => by rw [hgrow.cell_far _ (by simp;have:=zaf (HM.out j e hj);omega) hgnz];exact zaw _ (HM.out j e hj),fun h => by rcases hat with hat | hat;exact hgnz (by rw [hat];simpa [Value.ownBlock] using h);simp [Value.ownBlock] at h;omega,by have:=hgrow.size;simp at this;omega,Below.grown (Below.alloc' hbz _) hgrow (by simp;omega) (fun k hk => (hlow k hk).1)⟩
       case measure => simp [intOf];omega
      ·have hce : c = ds.length:=by omega
       subst hce
       rw [List.take_length] at hownz
       clear hcl
       go_wp2_with fail
       go_roundw
       case rel => exact ⟨x + 1,done ++ ds.map (fun d => (H ++ d) ++ T),by omega,by go_num,by show _ = _;rw [hr'.out,List.append_assoc],by rw [List.length_append,List.length_map];exact hownz,hbz⟩
       case measure => simp [intOf];omega
  ·have hnil : fs.drop x = []:=List.drop_of_length_le (by omega)
   have hr' : R = done:=by rw [hR.out,hnil];simp [trD]
   clear hR hnil hYl hYt hYd
   go_wp2_with fail
   go_ret
   rw [hr']
   exact ⟨⟨_,rfl,World.ownsRow.mono hown hbf0.size⟩,hbf0.trans (hb.mono hbf0.size)⟩
end
section
open Go.RowKit
theorem zyj (s : ByteArray) (i : Nat) (w : World) (hs : s.size <= 9000000) (hi : i < s.size) (h : bAt s i = 123) (R : List ByteArray)
  (hcall : ∀ w,Calls Tryz.prog 96 #[.string s,.int .i64 i] w fun e w' => SmR w.heap.size R e w' /\ Below w.heap.size w w') :
  Calls Tryz.prog 78 #[.string s,.int .i64 i] w fun e w' => SmR w.heap.size R e w' /\ Below w.heap.size w w':=by
 have hbk:=za1 s i hi
 have h1' : s[i].toNat = 123:=by omega
 clear hbk h
 go_enter Tryz.func78,Tryz.ntmps78
 go_wp2_with (go_at_call 96;refine (hcall _).mono ?_;rintro e w1 ⟨⟨v,rfl,hm⟩,hb1⟩)
 go_ret
 exact ⟨⟨_,rfl,hm⟩,hb1⟩
theorem SmIs.of {n : Nat} {s : ByteArray} (h : SmOK n s) : SmIs n s (fun t => (smV n t).map (datV n)):=fun p ty k w h1 h2 h3 => by
 refine (h p w ty k h1 h2 h3).mono ?_
 rintro e w' ⟨⟨v,rfl,hm⟩,hb⟩
 have hpos : 0 < ((smV n ty).map (datV n)).length:=by
  rw [List.length_map]
  exact List.length_pos_of_mem (zh9 n ty (zg6 _ _ _ _ h1).1)
 obtain ⟨g,cap,rfl,_⟩:=hm.form hpos
 exact ⟨g,cap,rfl,hm,hb⟩
theorem zr8 {n : Nat} {ty : Ty} {f : Nat × Ty × ByteArray} (h : f ∈ ty.fields) : wt n f.2.1 <= wt (n + 1) ty:=by
 have:=zq4 (fun f : Nat × Ty × ByteArray => wt n f.2.1 + f.2.2.size + 4) ty.fields f h
 rw [wt];omega
theorem zvo (n : Nat) : ln n (zbl 0) <= 1:=by
 cases n with
 | zero => exact Nat.zero_le _
 | succ n => rw [ln,if_neg (by decide),if_neg (by decide),if_neg (by decide)];exact Nat.le_refl _
theorem zgr : ∀ (n : Nat) (ty : Ty),ln n ty <= wt n ty
 | 0,ty => Nat.zero_le _
 | n + 1,ty => by
  have h70:=zem n ty
  have hin : ln n ty.in + 2 <= wt (n + 1) ty:=by
   cases hi : ty.inner with
   | nil =>
    have : ty.in = zbl 0:=by rw [Ty.in,hi];rfl
    have:=this ▸ zvo n
    omega
   | cons a r =>
    have h1 : ty.in = a:=by rw [Ty.in,hi];rfl
    have h2:=zgr n a
    rw [h1,wt,hi,List.map_cons,List.sum_cons];omega
  rw [ln]
  split
  ·omega
  ·split
   ·omega
   ·split
    ·have:=ziz (fun f : Nat × Ty × ByteArray => ln n f.2.1 + 3) (fun f => wt n f.2.1 + f.2.2.size + 4) ty.fields (fun f hf => by have:=zgr n f.2.1;show ln n f.2.1 + 3 <= wt n f.2.1 + f.2.2.size + 4;omega)
     rw [wt];omega
    ·omega
theorem zqm {s : ByteArray} (hs : s.size <= 99) : ∀ (n : Nat),n <= 100 -> SmOK n s
 | 0,_ => fun i w ty k h => by simp [zac] at h
 | n + 1,hn => fun i w ty k h hi hw => by
  have IH:=zqm hs n (by omega)
  have hL:=(zg6 _ _ _ _ h).1
  have his : i < s.size:=by have:=za8 true s _ _ _ _ h;omega
  have hf0:=fun hk => zhu h hk
  have hF0:=fun hk => zn3 hs (show n <= 99 by omega) h hi hk
  obtain ⟨hb,n',hn',h60,hin,h63,hfl,hks⟩:=zcg h
  cases hn'
  by_cases hk : ty.kind = 60
  ·rw [smV,if_pos hk,List.map_map]
   have h1:=ze0 (by omega) (h60 hk)
   have:=zyh s i w (by omega) his (by rw [hb,hk];rfl) ty.letters (hL.2.1 hk).2 (fun w => by rw [h1.1];exact zam (zey s i w (by omega) his))
   exact this
  by_cases hk1 : ty.kind = 91
  ·obtain ⟨k',hk'⟩:=hin (.inl hk1)
   have hwi:=zh0 hL (.inl hk1)
   have hc:=fun w => SmIs.of IH (i + 1) ty.in k' w hk' (by omega) (by omega)
   rw [show (((i + 1 : Nat)) : Int) = (i : Int) + 1 by omega] at hc
   have hl:=ze4 n ty.in (hL.2.2.1 (.inl hk1))
   have hd:=ze3 n ty.in (hL.2.2.1 (.inl hk1))
   have hlw:=zgr n ty.in
   have:=zqn s i w (by omega) his (by rw [hb,hk1];exact .inl rfl) ((smV n ty.in).map (datV n)) (by rw [List.length_map];omega) (fun d hd' => by obtain ⟨v,hv,rfl⟩:=List.mem_map.1 hd';have:=hd v hv;omega) hc
   rw [smV,if_neg hk,if_pos hk1,List.map_cons,List.map_map]
   rw [List.map_map] at this
   rw [show datV (n + 1) (.lst []) = oneB 0 by rw [zdc];simp [catB]]
   rw [show (smV n ty.in).map (datV (n + 1) ∘ fun v => .lst [v]) = (smV n ty.in).map ((oneB 1 ++ ·) ∘ datV n) from List.map_congr_left fun v hv => by simp only [Function.comp];rw [zdc];simp [catB]]
   exact this
  by_cases hk2 : ty.kind = 63
  ·obtain ⟨k',hk'⟩:=hin (.inr hk2)
   have hwi:=zh0 hL (.inr hk2)
   have hc:=fun w => SmIs.of IH (i + 1) ty.in k' w hk' (by omega) (by omega)
   rw [show (((i + 1 : Nat)) : Int) = (i : Int) + 1 by omega] at hc
   have hl:=ze4 n ty.in (hL.2.2.1 (.inr hk2))
   have hd:=ze3 n ty.in (hL.2.2.1 (.inr hk2))
   have hlw:=zgr n ty.in
   have:=zqn s i w (by omega) his (by rw [hb,hk2];exact .inr rfl) ((smV n ty.in).map (datV n)) (by rw [List.length_map];omega) (fun d hd' => by obtain ⟨v,hv,rfl⟩:=List.mem_map.1 hd';have:=hd v hv;omega) hc
   rw [smV,if_neg hk,if_neg hk1,if_pos hk2,List.map_cons,List.map_map]
   rw [List.map_map] at this
   exact this
  by_cases hk3 : ty.kind = 123
  ·obtain ⟨k0,hF⟩:=hF0 hk3
   have h5:=hL.2.2.2.2 hk3
   have hlen:=ze4 (n + 1) ty hL
   have hlv : (catB (ty.fields.map fun f => datV n (lv n f.2.1))).size <= 20000:=by
    have:=zkg (n + 1) ty
    rw [zh8 hk3,zdd,List.map_map] at this
    exact Nat.le_trans this hw
   have hdat:=zro (n:=n) (f:=smV n) (ls:=ty.fields.map fun f => lv n f.2.1) ty.fields 0 (by simp)
   rw [smV,if_neg hk,if_neg hk1,if_neg hk2,if_pos hk3] at hlen ⊢
   rw [hdat]
   have hfl':=(hf0 hk3).2
   rw [List.map_map] at hdat ⊢
   refine zyj s i w (by omega) his (by rw [hb,hk3];rfl) _ (fun w => yaah (zq0 hs n (by omega)) (SmIs.of IH) (by omega) i (by omega) hF (fun f hf => by have:=zr8 (n:=n) hf;omega) rfl hlv (fun f hf d hd => ?_) ?_ w)
   ·obtain ⟨v,hv,rfl⟩:=List.mem_map.1 hd
    have h1:=ze3 n f.2.1 (h5.2 f hf) v hv
    have h2:=zgr n f.2.1
    have h3:=zr8 (n:=n) hf
    omega
   ·have:=congrArg List.length hdat
    rw [List.length_map] at this
    have e : (trD (fun t => (smV n t).map (datV n)) (ty.fields.map (datV n ∘ fun f => lv n f.2.1)) ty.fields 0).length <= 20000:=by omega
    exact e
  ·rw [smV,if_neg hk,if_neg hk1,if_neg hk2,if_neg hk3,List.map_cons,List.map_nil,zoo hk3 hks]
   refine zyi s i w (by omega) his ⟨?_,?_,?_,?_⟩ <;> (rw [hb];intro hc;omega)
end
section
def Rel (t : ByteArray) (f g : Nat -> Option (ByteArray × Nat)) : Prop:=(∀ j d k,g j = some (d,k) -> f j = some (d,k)) /\ (∀ j d k,f j = some (d,k) -> bAt t k ≠ 45 -> g j = some (d,k))
theorem Rel.refl (t : ByteArray) (f : Nat -> Option (ByteArray × Nat)) : Rel t f f:=⟨fun _ _ _ h => h,fun _ _ _ h _ => h⟩
theorem Rel.none {t : ByteArray} {f g : Nat -> Option (ByteArray × Nat)} (h : Rel t f g) {j : Nat} (hf : f j = none) : g j = none:=by
 rcases hg : g j with _ | ⟨d,k⟩
 ·rfl
 ·rw [h.1 _ _ _ hg] at hf;cases hf
theorem znk (lo hi : Int) (t : ByteArray) : Rel t (za3 false lo hi t) (za3 true lo hi t):=by
 constructor
 ·intro j d k h
  unfold za3 at h ⊢
  split at h
  ·cases h
  ·split at h
   ·cases h
   ·rename_i hr
    split at h
    ·cases h
    ·simp only [if_neg hr];simpa using h
 ·intro j d k h hk
  unfold za3 at h ⊢
  split at h
  ·cases h
  ·split at h
   ·cases h
   ·rename_i hr
    simp only [if_neg hr]
    simp at h
    rw [if_neg (by rw [h.2];exact fun x => hk x.2)]
    simp [h]
theorem znh {t : ByteArray} {f g : Nat -> Option (ByteArray × Nat)} (h : Rel t f g) : ∀ (m c b : Nat) (d : ByteArray),za7 g t m c b d = za7 f t m c b d
 | 0,c,b,d => rfl
 | m + 1,c,b,d => by
  rw [za7,za7]
  rcases hf : f (b + 1) with _ | ⟨x,k⟩
  ·rw [h.none hf]
  ·by_cases h45 : bAt t k = 45
   ·simp only [if_neg (show ¬ bAt t k = 93 by omega),if_neg (show ¬ bAt t k = 44 by omega)]
    rcases hg : g (b + 1) with _ | ⟨x',k'⟩
    ·rfl
    ·have:=h.1 _ _ _ hg
     rw [hf] at this
     simp only [Option.some.injEq,Prod.mk.injEq] at this
     obtain ⟨rfl,rfl⟩:=this
     simp only [if_neg (show ¬ bAt t k = 93 by omega),if_neg (show ¬ bAt t k = 44 by omega)]
   ·rw [h.2 _ _ _ hf h45]
    simp only
    rw [znh h m (c + 1) k (d ++ x)]
theorem znd {t : ByteArray} {f : Ty -> Nat -> Option (ByteArray × Nat)} {fs : List (Nat × Ty × ByteArray)} {b : Nat} {d : ByteArray} (h : bAt t b = 45) : zax f t fs 44 b d = none:=by
 cases fs with
 | nil => rw [zax,if_neg (by omega)]
 | cons g fs => rw [zax,if_neg (by omega)]
theorem zne {t : ByteArray} {f g : Ty -> Nat -> Option (ByteArray × Nat)} (h : ∀ ty,Rel t (f ty) (g ty)) : ∀ (fs : List (Nat × Ty × ByteArray)) (mk : Int) (b : Nat) (d : ByteArray),zax g t fs mk b d = zax f t fs mk b d
 | [],mk,b,d => by rw [zax,zax]
 | x :: fs,mk,b,d => by
  rw [zax,zax]
  split
  ·rcases hf : f x.2.1 (b + 3) with _ | ⟨y,k⟩
   ·rw [(h _).none hf]
   ·by_cases h45 : bAt t k = 45
    ·simp only
     rw [znd h45]
     rcases hg : g x.2.1 (b + 3) with _ | ⟨y',k'⟩
     ·rfl
     ·have:=(h _).1 _ _ _ hg
      rw [hf] at this
      simp only [Option.some.injEq,Prod.mk.injEq] at this
      obtain ⟨rfl,rfl⟩:=this
      simp only
      exact znd h45
    ·rw [(h _).2 _ _ _ hf h45]
     simp only
     exact zne h fs 44 k (d ++ y)
  ·rfl
theorem zt9 {t : ByteArray} {f g : Nat -> Option (ByteArray × Nat)} (h : Rel t f g) : Rel t (zbn f t) (zbn g t):=by
 constructor
 ·intro j d k hj
  unfold zbn at hj ⊢
  split at hj
  ·rename_i hc;rw [if_pos hc];exact hj
  ·rename_i hc;rw [if_neg hc]
   rcases hg : g j with _ | ⟨x,k'⟩
   ·rw [hg] at hj;cases hj
   ·rw [hg] at hj;rw [h.1 _ _ _ hg];exact hj
 ·intro j d k hj hk
  unfold zbn at hj ⊢
  split at hj
  ·rename_i hc;rw [if_pos hc];exact hj
  ·rename_i hc;rw [if_neg hc]
   rcases hf : f j with _ | ⟨x,k'⟩
   ·rw [hf] at hj;cases hj
   ·rw [hf] at hj
    simp only [Option.some.injEq,Prod.mk.injEq] at hj
    rw [h.2 _ _ _ hf (by rw [hj.2];exact hk)]
    simp [hj]
theorem zzq9 (t : ByteArray) : ∀ (n : Nat) (ty : Ty),Rel t (enc false t n ty) (enc true t n ty)
 | 0,ty => ⟨fun j d k h => by simp [enc] at h,fun j d k h => by simp [enc] at h⟩
 | n + 1,ty => by
  have ih:=zzq9 t n
  have eF : ∀ j,enc false t (n + 1) ty j = _:=fun j => by rw [enc]
  have eT : ∀ j,enc true t (n + 1) ty j = _:=fun j => by rw [enc]
  have key : ∀ (a b : Nat -> Option (ByteArray × Nat)),(∀ j,enc false t (n + 1) ty j = a j) -> (∀ j,enc true t (n + 1) ty j = b j) -> Rel t a b -> Rel t (enc false t (n + 1) ty) (enc true t (n + 1) ty):=fun a b ha hb h =>
   ⟨fun j d k hj => by rw [ha];rw [hb] at hj;exact h.1 j d k hj,fun j d k hj hk => by rw [hb];rw [ha] at hj;exact h.2 j d k hj hk⟩
  by_cases h1 : ty.kind = 105
  ·exact key _ _ (fun j => by rw [enc,if_pos h1]) (fun j => by rw [enc,if_pos h1]) (znk _ _ t)
  by_cases h2 : ty.kind = 108
  ·exact key _ _ (fun j => by rw [enc,if_neg h1,if_pos h2]) (fun j => by rw [enc,if_neg h1,if_pos h2]) (znk _ _ t)
  by_cases h3 : ty.kind = 115
  ·exact key _ _ (fun j => by rw [enc,if_neg h1,if_neg h2,if_pos h3]) (fun j => by rw [enc,if_neg h1,if_neg h2,if_pos h3]) (Rel.refl t _)
  by_cases h4 : ty.kind = 60
  ·exact key (zcc ty.letters t) (zcc ty.letters t) (fun j => by rw [enc,if_neg h1,if_neg h2,if_neg h3,if_pos h4];rfl) (fun j => by rw [enc,if_neg h1,if_neg h2,if_neg h3,if_pos h4];rfl) (Rel.refl t _)
  by_cases h5 : ty.kind = 91
  ·refine key (zbk (enc false t n ty.in) t) (zbk (enc false t n ty.in) t) (fun j => by rw [enc,if_neg h1,if_neg h2,if_neg h3,if_neg h4,if_pos h5]) (fun j => ?_) (Rel.refl t _)
   rw [enc,if_neg h1,if_neg h2,if_neg h3,if_neg h4,if_pos h5]
   unfold zbk
   rw [znh (ih ty.in)]
  by_cases h6 : ty.kind = 63
  ·exact key _ _ (fun j => by rw [enc,if_neg h1,if_neg h2,if_neg h3,if_neg h4,if_neg h5,if_pos h6]) (fun j => by rw [enc,if_neg h1,if_neg h2,if_neg h3,if_neg h4,if_neg h5,if_pos h6]) (zt9 (ih ty.in))
  by_cases h7 : ty.kind = 123
  ·exact key (fun j => zax (enc false t n) t ty.fields 123 j ByteArray.empty) (fun j => zax (enc false t n) t ty.fields 123 j ByteArray.empty) (fun j => by rw [enc,if_neg h1,if_neg h2,if_neg h3,if_neg h4,if_neg h5,if_neg h6,if_pos h7]) (fun j => by
    rw [enc,if_neg h1,if_neg h2,if_neg h3,if_neg h4,if_neg h5,if_neg h6,if_pos h7,zne ih]) (Rel.refl t _)
  ·exact key (fun _ => none) (fun _ => none) (fun j => by rw [enc,if_neg h1,if_neg h2,if_neg h3,if_neg h4,if_neg h5,if_neg h6,if_neg h7]) (fun j => by rw [enc,if_neg h1,if_neg h2,if_neg h3,if_neg h4,if_neg h5,if_neg h6,if_neg h7]) (Rel.refl t _)
theorem zwx {pt : Nat -> Option (Ty × Nat)} {ef eg : Ty -> Nat -> Option (ByteArray × Nat)} {s : ByteArray} (h : ∀ ty,Rel s (ef ty) (eg ty)) :
  (∀ a f k,zaj pt eg s a = some (f,k) -> zaj pt ef s a = some (f,k)) /\ (∀ a f k,zaj pt ef s a = some (f,k) -> bAt s k ≠ 45 -> zaj pt eg s a = some (f,k)):=by
 constructor
 ·intro a f k hx
  unfold zaj at hx ⊢
  split at hx
  ·rename_i hc;rw [if_pos hc]
   rcases hp : pt (a + 2) with _ | ⟨ty,k'⟩
   ·rw [hp] at hx;cases hx
   ·rw [hp] at hx
    simp only at hx ⊢
    split at hx
    ·rename_i h6;rw [if_pos h6]
     rcases hy : eg ty (k' + 1) with _ | ⟨d,m⟩
     ·rw [hy] at hx;cases hx
     ·rw [hy] at hx;rw [(h ty).1 _ _ _ hy];exact hx
    ·rename_i h6;rw [if_neg h6];exact hx
  ·cases hx
 ·intro a f k hx hk
  unfold zaj at hx ⊢
  split at hx
  ·rename_i hc;rw [if_pos hc]
   rcases hp : pt (a + 2) with _ | ⟨ty,k'⟩
   ·rw [hp] at hx;cases hx
   ·rw [hp] at hx
    simp only at hx ⊢
    split at hx
    ·rename_i h6;rw [if_pos h6]
     rcases hy : ef ty (k' + 1) with _ | ⟨d,m⟩
     ·rw [hy] at hx;cases hx
     ·rw [hy] at hx
      have hx2:=hx
      simp only [Option.some.injEq,Prod.mk.injEq] at hx2
      rw [(h ty).2 _ _ _ hy (by rw [hx2.2];exact hk)];exact hx
    ·rename_i h6;rw [if_neg h6];exact hx
  ·cases hx
theorem zpc {pf pg : Nat -> Option ((Nat × Ty × ByteArray) × Nat)} {s : ByteArray} (h1 : ∀ a f k,pg a = some (f,k) -> pf a = some (f,k)) (h2 : ∀ a f k,pf a = some (f,k) -> bAt s k ≠ 45 -> pg a = some (f,k)) :
  ∀ (m a : Nat) (acc : List (Nat × Ty × ByteArray)),zaz pg s m a acc = zaz pf s m a acc
 | 0,a,acc => rfl
 | m + 1,a,acc => by
  rw [zaz,zaz]
  rcases hf : pf a with _ | ⟨f,k⟩
  ·rcases hg : pg a with _ | ⟨f',k'⟩
   ·rfl
   ·rw [h1 _ _ _ hg] at hf;cases hf
  ·by_cases h45 : bAt s k = 45
   ·simp only [if_neg (show ¬ bAt s k = 125 by omega),if_neg (show ¬ bAt s k = 44 by omega),ite_self]
    rcases hg : pg a with _ | ⟨f',k'⟩
    ·rfl
    ·have:=h1 _ _ _ hg
     rw [hf] at this
     simp only [Option.some.injEq,Prod.mk.injEq] at this
     obtain ⟨rfl,rfl⟩:=this
     simp only [if_neg (show ¬ bAt s k = 125 by omega),if_neg (show ¬ bAt s k = 44 by omega),ite_self]
   ·rw [h2 _ _ _ hf h45]
    simp only
    rw [zpc h1 h2 m (k + 1) (acc ++ [f])]
theorem zpl (s : ByteArray) : ∀ (n i : Nat),zac true s n i = zac false s n i
 | 0,i => rfl
 | n + 1,i => by
  have ih : zac true s n = zac false s n:=funext (zpl s n)
  rw [zac,zac,ih]
  have hr:=zwx (pt:=zac false s n) (s:=s) (fun ty => zzq9 s n ty)
  have e : ∀ a,pRec (zaj (zac false s n) (enc true s n) s) s a = pRec (zaj (zac false s n) (enc false s n) s) s a:=fun a => by
   unfold pRec;rw [zpc hr.1 hr.2]
  rw [e]
theorem zif (s : ByteArray) : pAll true s = pAll false s:=by unfold pAll;rw [zpl]
end
section
open Go.RowKit
theorem zlf (s : ByteArray) (hm : s.size <= maxLen) (w : World) :
  Calls Tryz.prog 54 #[.string s] w fun e w' => e = .returned (.int .i64 (chk true s)) /\ Below w.heap.size w w':=by
 by_cases hs : 60 < s.size
 ·have hr : Hid (chk true s = 1):=by show _ = _;unfold chk;rw [if_pos hs]
  unfold maxLen at hm
  go_enter Tryz.func54,Tryz.ntmps54
  go_wp2_with fail
  go_ret
  exact ⟨zcx hr.out.symm,Below.refl _ _⟩
 ·have IE:=(zd1 (s:=s) (by omega) s.size (by omega)).1
  rcases hx : zac true s s.size 0 with _ | ⟨ty,k⟩
  ·have hr : Hid (chk true s = 2):=by show _ = _;unfold chk pAll;rw [if_neg hs,hx];rfl
   have hcall:=fun w => IE.no w (by omega) (by omega) hx
   have hne : ((-1 : Int) != (s.size : Int)) = true:=by rw [bne_iff_ne];omega
   clear hx IE hm
   go_enter Tryz.func54,Tryz.ntmps54
   go_wp2_with (go_at_call 75;refine (hcall _).mono ?_;rintro e w1 ⟨rfl,hb1⟩)
   go_ret
   exact ⟨zcx hr.out.symm,hb1⟩
  ·have hk:=za8 true s _ _ _ _ hx
   have hcall:=fun w => IE.yes w (by omega) (by omega) hx
   by_cases he : k = s.size
   ·have hr : Hid (chk true s = 0):=by show _ = _;unfold chk pAll;rw [if_neg hs,hx];simp only [if_pos he];rfl
    have hne : ((k : Int) != (s.size : Int)) = false:=by simp;omega
    have h1 : ¬ (k : Int) < 1:=by omega
    clear hx IE hm he
    go_enter Tryz.func54,Tryz.ntmps54
    go_wp2_with (go_at_call 75;refine (hcall _).mono ?_;rintro e w1 ⟨rfl,hb1⟩)
    go_ret
    exact ⟨zcx hr.out.symm,hb1⟩
   ·have hr : Hid (chk true s = 2):=by show _ = _;unfold chk pAll;rw [if_neg hs,hx];simp only [if_neg he];rfl
    have hne : ((k : Int) != (s.size : Int)) = true:=by simp;omega
    clear hx IE hm he
    go_enter Tryz.func54,Tryz.ntmps54
    go_wp2_with (go_at_call 75;refine (hcall _).mono ?_;rintro e w1 ⟨rfl,hb1⟩)
    go_ret
    exact ⟨zcx hr.out.symm,hb1⟩
end
section
open Go.RowKit
def zjm (s t : ByteArray) : Int:=if chk true s = 1 \/ chk true t = 1 then 1 else if chk true s ≠ 0 \/ chk true t ≠ 0 then 2 else 0
theorem zmo (s : ByteArray) : chk true s = 1 \/ chk true s = 0 \/ chk true s = 2:=by unfold chk;split;exact .inl rfl;split;exact .inr (.inl rfl);exact .inr (.inr rfl)
theorem zs6 (s t : ByteArray) (hs : s.size <= maxLen) (ht : t.size <= maxLen) (w : World) :
  Calls Tryz.prog 77 #[.string s,.string t] w fun e w' => e = .returned (.int .i64 (zjm s t)) /\ Below w.heap.size w w':=by
 have h1:=fun w => zlf s hs w
 have h2:=fun w => zlf t ht w
 have key : ∀ (a b r : Int),(∀ w,Calls Tryz.prog 54 #[.string s] w fun e w' => e = .returned (.int .i64 a) /\ Below w.heap.size w w') -> (∀ w,Calls Tryz.prog 54 #[.string t] w fun e w' => e = .returned (.int .i64 b) /\ Below w.heap.size w w') -> (a = 1 \/ a = 0 \/ a = 2) -> (b = 1 \/ b = 0 \/ b = 2) -> r = (if a = 1 \/ b = 1 then 1 else if a ≠ 0 \/ b ≠ 0 then 2 else 0) ->
   Calls Tryz.prog 77 #[.string s,.string t] w fun e w' => e = .returned (.int .i64 r) /\ Below w.heap.size w w':=by
  clear h1 h2 hs ht
  intro a b r h1 h2 ha hb hr
  rcases ha with rfl | rfl | rfl <;> rcases hb with rfl | rfl | rfl <;> (
   simp at hr
   subst hr
   go_enter Tryz.func77,Tryz.ntmps77
   go_wp2_with (first | (go_at_call 54;have hq:=hb1;refine (h2 _).mono ?_;rintro e w2 ⟨rfl,hb2⟩) | (go_at_call 54;refine (h1 _).mono ?_;rintro e w1 ⟨rfl,hb1⟩))
   go_ret
   exact ⟨rfl,hb1.trans (hb2.mono hb1.size)⟩)
 exact key _ _ _ h1 h2 (zmo s) (zmo t) rfl
end
end Go.Proofs.YtkkekopomiehlaaGreat
