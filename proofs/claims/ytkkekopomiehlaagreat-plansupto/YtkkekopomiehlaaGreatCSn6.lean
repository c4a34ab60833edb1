import Derived.Test.YtkkekopomiehlaaGreatCSn3
import Derived.Deep.Onto
set_option linter.unusedVariables false
set_option linter.unusedSimpArgs false
set_option maxHeartbeats 40000000
set_option maxRecDepth 4000
namespace Go.Proofs.YtkkekopomiehlaaGreat
section
open Go.RowKit
theorem zl7 {m : Nat} {r : Ty} {k : Nat} (h : r.kind = k) (hk : r.inner ≠ []) : wt m r.in + 70 <= wt (m + 1) r:=by
 unfold Ty.in
 rcases hi : r.inner with _ | ⟨t,ts⟩
 ·exact absurd hi hk
 ·rw [wt,hi];simp;omega
theorem zkc {s : ByteArray} {n i k : Nat} {ty : Ty} (h : zac true s n i = some (ty,k)) (hk : ty.kind = 91 \/ ty.kind = 63) : ty.inner ≠ []:=by
 intro hi
 obtain ⟨_,n',_,_,h2,_⟩:=zcg h
 obtain ⟨k',hk'⟩:=h2 hk
 have : ty.in = zbl 0:=by unfold Ty.in;rw [hi];rfl
 rw [this] at hk'
 have:=(zcg hk').2
 obtain ⟨_,_,_,_,_,_,h7⟩:=this
 have h0 : (zbl 0).kind = 0:=rfl
 omega
theorem zhu {s : ByteArray} {n i k : Nat} {ty : Ty} (h : zac true s n i = some (ty,k)) (hk : ty.kind = 123) : ty.fields ≠ [] /\ ty.fields.length <= s.size:=by
 obtain ⟨_,n',_,_,_,_,h2,_⟩:=zcg h
 obtain ⟨k',hk'⟩:=h2 hk
 have hpf : ∀ a f k,zaj (zac true s n') (enc true s n') s a = some (f,k) -> a < k /\ k <= s.size:=fun a f k hf => by
  unfold zaj at hf
  split at hf
  ·split at hf
   ·cases hf
   ·rename_i t k' ht
    have h2:=za8 true s _ _ _ _ ht
    split at hf
    ·split at hf
     ·cases hf
     ·rename_i d m' he
      cases hf
      have h3:=zbo he
      exact ⟨by omega,by omega⟩
    ·cases hf
     exact ⟨by omega,by omega⟩
  ·cases hf
 have hl:=zgz hpf (Nat.zero_le _) hk'
 have hb:=zgy hpf hk'
 refine ⟨fun hf => ?_,by omega⟩
 rw [hf] at hl;simp at hl
theorem zew {a b : Nat} (h : a ≠ b) : ((a : Int) == (b : Int)) = false:=by simp;omega
theorem zy2 {m : Nat} {s t d : ByteArray} (IH : ∀ m' ≤ m,ze8 m' s t d) (hs : s.size <= 99) (ht : t.size <= 99) (hd : d.size <= 64) : ze8 (m + 1) s t d:=by
 intro nw nr i k j x y kx ky v w hm hnw hnr hpx hix hpy hky hv hat hwt
 have IM:=IH m (Nat.le_refl _)
 obtain ⟨hbx,nw,rfl,x60,xin,xne,x123,xk⟩:=zcg hpx
 obtain ⟨hby,nr,rfl,y60,yin,yne,y123,yk⟩:=zcg hpy
 have hi : i < s.size:=by have:=za8 true s _ _ _ _ hpx;omega
 have hk : k < t.size:=by have:=za8 true t _ _ _ _ hpy;omega
 have hpos:=zfc _ _ _ hv
 have hj : j < d.size:=by have:=hat.le;omega
 have hA : s[i].toNat = x.kind:=by have:=za1 s i hi;omega
 have hB : t[k].toNat = y.kind:=by have:=za1 t k hk;omega
 have hCb:=za1 d j hj
 have _hs : s.size <= 9000000:=by omega
 have _ht : t.size <= 9000000:=by omega
 have _hd : d.size <= 9000000:=by omega
 have hwm : wt m y <= 20000:=Nat.le_trans (zhc m y) hwt
 show Calls _ _ _ _ (fun e w' => SRet (za0 (rdT m) x y v) e /\ Below w.heap.size w w')
 have conv : ∀ {o : Option ByteArray} {f : FuncId} {args : Array Value} {w : World},(Calls Tryz.prog f args w fun e w' => SRet o e /\ Below w.heap.size w w') -> Calls Tryz.prog f args w fun e w' => SR o.isSome (fun z => ∀ t,o = some t -> z = t) e /\ Below w.heap.size w w':=fun h => h.mono (fun e w' h => ⟨zsk h.1,h.2⟩)
 have conv2 : ∀ {o : Option ByteArray} {f : FuncId} {args : Array Value} {w : World},(Calls Tryz.prog f args w fun e w' => e = .returned (sRet o) /\ Below w.heap.size w w') -> Calls Tryz.prog f args w fun e w' => SR o.isSome (fun z => ∀ t,o = some t -> z = t) e /\ Below w.heap.size w w':=fun {o} {f} {args} {w} h => conv (h.mono (fun e w' h => ⟨by rw [h.1];cases o with | none => exact ⟨_,rfl⟩ | some t => exact rfl,h.2⟩))
 have back : ∀ {o : Option ByteArray},(Calls Tryz.prog 79 #[.string s,.int .i64 i,.string t,.int .i64 k,.string d,.int .i64 j] w fun e w' => SR o.isSome (fun z => ∀ t,o = some t -> z = t) e /\ Below w.heap.size w w') -> Calls Tryz.prog 79 #[.string s,.int .i64 i,.string t,.int .i64 k,.string d,.int .i64 j] w fun e w' => SRet o e /\ Below w.heap.size w w':=fun h => h.mono (fun e w' h => ⟨zsl h.1,h.2⟩)
 by_cases h63 : x.kind = 63
 ·obtain ⟨kx',hpx'⟩:=xin (.inr h63)
  rcases hv with ⟨z,rfl,hv⟩ | ⟨z,rfl,hv⟩ | ⟨z,rfl,hv⟩ | ⟨vs,rfl,hv⟩ | ⟨rfl,hv⟩ | ⟨u,rfl,hv⟩ | ⟨vs,rfl,hv⟩
  iterate 4
   ·omega
  ·rw [zet,At.one (by omega)] at hat
   have:=zyu (s:=s) (t:=t) (d:=d) i k j hi hk hj _hs _ht _hd w (by omega) (by omega)
   rw [show za0 (rdT m) x y .non = if y.kind = 63 then some ⟨#[95]⟩ else none by unfold za0;rw [if_pos h63];rfl]
   refine this.mono (fun e w' h => ⟨?_,h.2⟩)
   obtain ⟨z,h1,rfl⟩:=h.1
   rw [hB] at h1
   by_cases hy : y.kind = 63
   ·rw [if_pos hy];rw [hy] at h1;exact h1
   ·rw [if_neg hy];rw [show ((y.kind : Int) == 63) = false from zew hy] at h1;exact ⟨_,h1⟩
  ·rw [zgg,At.app,At.one (by omega),zai] at hat
   have hC : ((d[j].toNat : Int) == 0) = false:=by simp;omega
   rw [show za0 (rdT m) x y (.som u) = rdT m x.in y u by unfold za0;rw [if_pos h63];rfl]
   by_cases hy : y.kind = 63
   ·obtain ⟨ky',hpy'⟩:=yin (.inr hy)
    cases m with
    | zero => omega
    | succ m =>
     rw [show rdT (m + 1) x.in y u = rdT m x.in y.in u by show za0 _ _ _ _ = _;unfold za0;rw [if_neg (xne h63),if_pos hy]]
     have hwi:=zl7 (m:=m) (r:=y) rfl (zkc hpy (.inr hy))
     refine back (zyp i k j hi hk hj _hs _ht _hd w (by omega) (by omega) hC _ _ (fun w => ?_))
     exact conv (IH m (by omega) nw nr (i + 1) (k + 1) (j + 1) x.in y.in kx' ky' u w (by omega) (by omega) (by omega) hpx' (by omega) hpy' (by omega) hv.2 hat.2 (by have:=zhc (m + 1) y;omega))
   ·refine back (zy1 i k j hi hk hj _hs _ht _hd w (by omega) (by rw [hB];exact zew hy) hC _ _ (fun w => ?_))
    exact conv (IM nw (nr + 1) (i + 1) k (j + 1) x.in y kx' ky u w (by omega) (by omega) hnr hpx' (by omega) hpy hky hv.2 hat.2 hwm)
  ·omega
 ·have hA63 : ((s[i].toNat : Int) == 63) = false:=by rw [hA];exact zew h63
  by_cases hy : y.kind = 63
  ·obtain ⟨ky',hpy'⟩:=yin (.inr hy)
   have hwi:=zl7 (m:=m) (r:=y) rfl (zkc hpy (.inr hy))
   rw [show za0 (rdT m) x y v = rdT m x y.in v by unfold za0;rw [if_neg h63,if_pos hy]]
   refine back (zyw i k j hi hk hj _hs _ht _hd w hA63 (by omega) _ _ (fun w => ?_))
   exact conv (IM (nw + 1) nr i (k + 1) j x y.in kx ky' v w (by omega) hnw (by omega) hpx hix hpy' (by omega) hv hat (by omega))
  ·have hB63 : ((t[k].toNat : Int) == 63) = false:=by rw [hB];exact zew hy
   cases hsame : zba x.kind y.kind with
   | true =>
    rw [show za0 (rdT m) x y v = some (zff v) by unfold za0;rw [if_neg h63,if_neg hy,if_pos hsame]]
    have hk3 : x.kind = 105 \/ x.kind = 108 \/ x.kind = 115:=by simp [zba] at hsame;omega
    have htx : txtV (nw + 1) x v = zff v:=by
     rcases hv with ⟨z,rfl,hv⟩ | ⟨z,rfl,hv⟩ | ⟨z,rfl,hv⟩ | ⟨vs,rfl,hv⟩ | ⟨rfl,hv⟩ | ⟨u,rfl,hv⟩ | ⟨vs,rfl,hv⟩
     iterate 2
      ·rfl
     iterate 5
      ·omega
    have hdx:=zhq (nw + 1) x v j hv hat
    rw [htx] at hdx
    have htell:=fun w => (zi3 (s:=s) (t:=d) (by omega) (by omega) (nw + 1) hnw).yes w hpx hix (by omega) hdx
    have fin : ∀ {e : Ending},SR true (fun z => z = zff v) e -> SRet (some (zff v)) e:=fun h => by obtain ⟨z,h1,rfl⟩:=h;exact h1
    have hcs : (x.kind = 105 /\ y.kind = 108) \/ (x.kind = 105 /\ y.kind = 105) \/ (x.kind = 108 /\ y.kind = 108) \/ (x.kind = 115 /\ y.kind = 115):=by simp [zba] at hsame;omega
    rcases hcs with ⟨h1,h2⟩ | ⟨h1,h2⟩ | ⟨h1,h2⟩ | ⟨h1,h2⟩
    ·exact (zyy i k j hi hk hj _hs _ht _hd w (by omega) (by omega) _ _ htell).mono (fun e w' h => ⟨fin h.1,h.2⟩)
    ·exact (zyx i k j hi hk hj _hs _ht _hd w (by omega) (by omega) _ _ htell).mono (fun e w' h => ⟨fin h.1,h.2⟩)
    ·exact (zyz i k j hi hk hj _hs _ht _hd w (by omega) (by omega) _ _ htell).mono (fun e w' h => ⟨fin h.1,h.2⟩)
    ·exact (zy0 i k j hi hk hj _hs _ht _hd w (by omega) (by omega) _ _ htell).mono (fun e w' h => ⟨fin h.1,h.2⟩)
   | false =>
    by_cases hkk : x.kind = y.kind
    ·have hstep : za0 (rdT m) x y v = if v.tag = 2 then zd0 x.letters y.letters y.op v.n.toNat else if v.tag = 3 then zbv (rdT m x.in y.in) v.vs 0 ⟨#[91]⟩ else if v.tag = 6 then zbu (zbi (rdT m) (x.fields.zip v.vs)) y.fields ⟨#[123]⟩ ByteArray.empty else none:=by
      unfold za0;rw [if_neg h63,if_neg hy,if_neg (by rw [hsame];simp),if_neg (by simp [hkk])]
     rcases hv with ⟨z,rfl,hv⟩ | ⟨z,rfl,hv⟩ | ⟨q,rfl,hv⟩ | ⟨vs,rfl,hv⟩ | ⟨rfl,hv⟩ | ⟨u,rfl,hv⟩ | ⟨vs,rfl,hv⟩
     iterate 2
      ·exfalso;simp [zba] at hsame;omega
     ·rw [show za0 (rdT m) x y (.cho q) = zd0 x.letters y.letters y.op q from hstep]
      rw [zes,At.one hv.2.2] at hat
      obtain ⟨l1,l2,l3,l4,l5⟩:=ze0 (by omega) (x60 hv.1)
      have hC : d[j].toNat = q:=by omega
      have hlq : bAt x.letters q = (x.letters[d[j].toNat]'(by omega)).toNat:=by rw [za1 x.letters q hv.2.1];simp only [hC]
      refine back (zyq i k j hi hk hj _hs _ht _hd w (by omega) (by omega) x.letters l4 (by omega) _ _ (fun w => by rw [l1];exact zam (zey s i w _hs hi)) (fun w => ?_))
      have hcc:=zyl (s:=t) (i:=k) (by omega) hk (y60 (by omega)) (x.letters[d[j].toNat]'(by omega)).toNat ((x.letters[d[j].toNat]'(by omega)).toNat_lt) w
      have:=conv2 hcc
      unfold zd0
      rw [hlq]
      exact this
     ·obtain ⟨kx',hpx'⟩:=xin (.inl hv.1)
      obtain ⟨ky',hpy'⟩:=yin (.inl (by omega))
      have hwi:=zl7 (m:=m) (r:=y) rfl (zkc hpy (.inl (by omega)))
      rw [show za0 (rdT m) x y (.lst vs) = zbv (rdT m x.in y.in) vs 0 ⟨#[91]⟩ from hstep]
      rw [zdc] at hat
      refine back (zyr i k j hi hk hj _hs _ht _hd w (by omega) (by omega) _ _ (fun w => ?_))
      exact conv2 (zym IM (by omega) (by omega) hd nw nr (i + 1) (k + 1) j x.in y.in kx' ky' vs w (by omega) (by omega) (by omega) hpx' (by omega) hpy' (by omega) hv.2.1 hv.2.2 hat (by omega))
     iterate 2
      ·omega
     ·obtain ⟨kx',hpx'⟩:=x123 hv.1
      obtain ⟨ky',hpy'⟩:=y123 (by omega)
      have hfx:=zhu hpx hv.1
      have hfy:=zhu hpy (by omega)
      have IFx:=zgk (zd1 (s:=s) (by omega) nw (by omega)).1 ((zd1 (s:=s) (by omega) nw (by omega)).2 s (by omega)) (by omega) (show nw <= 100 by omega)
      have IFy:=zgk (zd1 (s:=t) (by omega) nr (by omega)).1 ((zd1 (s:=t) (by omega) nr (by omega)).2 t (by omega)) (by omega) (show nr <= 100 by omega)
      rw [show za0 (rdT m) x y (.rcd vs) = zbu (zbi (rdT m) (x.fields.zip vs)) y.fields ⟨#[123]⟩ ByteArray.empty from hstep]
      rw [zdd] at hat
      refine back (zyv i k j hi hk hj _hs _ht _hd w (by omega) (by omega) _ _ (fun w => ?_))
      refine conv2 (zyn (k0:=kx') (k1:=ky') IM (by omega) (by omega) hd nw nr i k j (by omega) (by omega) (by omega) (by omega) (by omega) hfx.1 hfy.1 (fun w => ?_) (fun w => ?_) vs hv.2.2.1 hv.2.2.2 hat (by rw [wt] at hwt;omega) w)
      ·have:=IFx i w hi (by omega);rw [hpx'] at this;exact this
      ·have:=IFy k w hk (by omega);rw [hpy'] at this;exact this
    ·rw [show za0 (rdT m) x y v = none by unfold za0;rw [if_neg h63,if_neg hy,if_neg (by rw [hsame];simp),if_pos hkk]]
     have fin : ∀ {e : Ending},SR false (fun _ => True) e -> SRet none e:=fun h => by obtain ⟨z,h1,_⟩:=h;exact ⟨z,h1⟩
     by_cases h105 : x.kind = 105
     ·have hy108 : y.kind ≠ 108:=fun h => by rw [h105,h] at hsame;cases hsame
      exact (zys i k j hi hk hj _hs _ht _hd w (by omega) hB63 (by rw [hB];exact zew hy108) (by rw [hB];simp;omega) (by rw [hB];simp;omega)).mono (fun e w' h => ⟨fin h.1,h.2⟩)
     ·exact (zyt i k j hi hk hj _hs _ht _hd w hA63 hB63 (by rw [hA];exact zew h105) (by rw [hA,hB];exact zew hkk) (by rw [hA,hB];simp;omega)).mono (fun e w' h => ⟨fin h.1,h.2⟩)
theorem zli {s t d : ByteArray} (hs : s.size <= 99) (ht : t.size <= 99) (hd : d.size <= 64) : ∀ m,∀ m' ≤ m,ze8 m' s t d
 | 0,m',h => by
  intro nw nr i k j x y kx ky v w hm hnw hnr hpx
  obtain rfl : nw = 0:=by omega
  simp [zac] at hpx
 | m + 1,m',h => by
  by_cases he : m' = m + 1
  ·subst he;exact zy2 (zli hs ht hd m) hs ht hd
  ·exact zli hs ht hd m m' (by omega)
theorem zyo {s t d : ByteArray} (hs : s.size <= 99) (ht : t.size <= 99) (hd : d.size <= 64) (m : Nat) : ze8 m s t d:=zli hs ht hd m m (Nat.le_refl _)
end
section
open Go.RowKit
theorem zn3 {n : Nat} {s : ByteArray} (hs : s.size <= 99) (hn : n <= 99) {i k : Nat} {ty : Ty} (h : zac true s (n + 1) i = some (ty,k)) (hi : s.size <= i + (n + 1)) (hk : ty.kind = 123) : ∃ k0,
  ∀ w,Calls Tryz.prog 94 #[.string s,.int .i64 i] w fun e w' => GRet w.heap.size n s (some (ty.fields,k0)) e w' /\ Below w.heap.size w w':=by
 obtain ⟨hb,n',hn',_,_,_,hf,_⟩:=zcg h
 cases hn'
 obtain ⟨k',hf⟩:=hf hk
 have his : i < s.size:=by have:=za8 true s _ _ _ _ h;omega
 have hr:=zd1 (s:=s) (by omega) n (by omega)
 have hF:=zgk hr.1 (hr.2 s (by omega)) (by omega) (by omega)
 refine ⟨k',fun w => ?_⟩
 have:=hF i w his (by omega)
 rw [hf] at this
 exact this
theorem zq0 {s : ByteArray} (hs : s.size <= 99) : ∀ (n : Nat),n <= 100 -> zjf n s
 | 0,_ => fun i w ty k h => by simp [zac] at h
 | n + 1,hn => fun i w ty k h hi hw => by
  have hp:=zcg h
  by_cases hk : ty.kind = 123
  ·obtain ⟨k0,hF⟩:=zn3 hs (by omega) h hi hk
   have hfl:=(zhu h hk).2
   have:=zzm (zq0 hs n (by omega)) (by omega) i (by omega) (by rw [hp.1,hk];rfl) hF (by rw [wt] at hw;omega) w
   rw [zh8 hk,zdd,List.map_map]
   exact this
  ·rw [zoo hk hp.2.choose_spec.2.2.2.2.2]
   exact zzl s i w (by omega) (by rw [hp.1];intro hc;exact hk (by omega))
end
section
open Go.RowKit
def SmR (B : Nat) (ds : List ByteArray) (e : Ending) (w' : World) : Prop:=∃ v,e = .returned v /\ w'.ownsRow B 9 1 v ds.length (ds.map .string)
def SmOK (n : Nat) (s : ByteArray) : Prop:=∀ (i : Nat) (w : World) (ty : Ty) (k : Nat),zac true s n i = some (ty,k) -> s.size <= i + n -> wt n ty <= 20000 ->
 Calls Tryz.prog 78 #[.string s,.int .i64 i] w fun e w' => SmR w.heap.size ((smV n ty).map (datV n)) e w' /\ Below w.heap.size w w'
theorem Tryz.infoStrS : (Tryz.prog.info? 9).map (fun i => (i.zero,i.size,i.bytes)) = some (some (.string ⟨#[]⟩),1,16):=by kernel_rfl
theorem zyi (s : ByteArray) (i : Nat) (w : World) (hs : s.size <= 9000000) (hi : i < s.size) (h : bAt s i ≠ 123 /\ bAt s i ≠ 60 /\ bAt s i ≠ 91 /\ bAt s i ≠ 63) :
  Calls Tryz.prog 78 #[.string s,.int .i64 i] w fun e w' => SmR w.heap.size [oneB 0] e w' /\ Below w.heap.size w w':=by
 have hone:=fun w => zcv 0 w (by omega)
 have hbk:=za1 s i hi
 obtain ⟨ii,hii,hz0,hzz1,hzz2⟩:=info_parts Tryz.infoStrS
 rw [hbk] at h
 obtain ⟨h1,h2,h3,h4⟩:=h
 have h1' : s[i].toNat ≠ 123:=by omega
 have h2' : s[i].toNat ≠ 60:=by omega
 have h3' : s[i].toNat ≠ 91:=by omega
 have h4' : s[i].toNat ≠ 63:=by omega
 clear hbk
 go_enter Tryz.func78,Tryz.ntmps78
 go_wp2_with (first | (go_at_call 95;refine (hone _).mono ?_;rintro e w1 ⟨rfl,hb1⟩) | (at_builtin;refine wpList_append_lies _ rfl _ _ _ rfl w.heap.size 9 ii _ 1 16 Tryz.underlying22 hii hz0 hzz1 hzz2 rfl (by omega) (.slice none 0 0) 0 [] rfl (World.ownsRow_nil _ _ _ _) ⟨w1.heap.size,0,none⟩ 1 1 [.string (oneB 0)] rfl rfl (World.news_of_block (heap_alloc_new w1 _)) (by simp [Value.oneCell']) (by omega) (by unfold maxLen;omega) (by omega) (by have:=hb1.size;simp;omega) (w1.heap.size + 1) (by simp) ?_;intro g' cap' w3 hown' hgrow hat hlt3))
 go_ret
 exact ⟨⟨_,rfl,hown'⟩,Below.grown (Below.alloc' hb1 _) hgrow (by have:=hb1.size;simp;omega) (fun k hk => by simp [Value.ownBlock] at hk)⟩
theorem zx1 (x : Nat) : (List.range (x + 1)).map oneB = (List.range x).map oneB ++ [oneB x]:=by rw [List.range_succ,List.map_append];rfl
theorem zyh (s : ByteArray) (i : Nat) (w : World) (hs : s.size <= 9000000) (hi : i < s.size) (h : bAt s i = 60) (l : ByteArray) (hl : l.size <= 8)
  (hlet : ∀ w,Calls Tryz.prog 91 #[.string s,.int .i64 i] w fun e w' => e = .returned (.string l) /\ w = w') :
  Calls Tryz.prog 78 #[.string s,.int .i64 i] w fun e w' => SmR w.heap.size ((List.range l.size).map oneB) e w' /\ Below w.heap.size w w':=by
 have hbk:=za1 s i hi
 obtain ⟨ii,hii,hz0,hzz1,hzz2⟩:=info_parts Tryz.infoStrS
 have h1' : s[i].toNat = 60:=by omega
 clear hbk h
 go_enter Tryz.func78,Tryz.ntmps78
 go_wp2_with (go_at_call 91;refine (hlet _).mono ?_;rintro e _ ⟨rfl,rfl⟩)
 go_loopw [5,7] (fun vl vn wr => ∃ x : Nat,x <= l.size /\ vn = .int .i64 x /\ wr.ownsRow w.heap.size 9 1 vl x (((List.range x).map oneB).map .string) /\ Below w.heap.size w wr) (fun _ x _ => l.size - (intOf x).toNat)
 case atStart => exact ⟨0,Nat.zero_le _,rfl,World.ownsRow_nil _ _ _ _,Below.refl _ _⟩
 case round =>
  obtain ⟨x,hx,rfl,hown,hb⟩:=hrel
  have hlow : ∀ k,u5.ownBlock = some k -> w.heap.size <= k /\ k < wr.heap.size:=fun k h => hown.lt k h
  have hzw:=hb.size
  by_cases hlt : x < l.size
  ·have hone:=fun w => zcv x w (by omega)
   go_wp2_with (first | (go_at_call 95;refine (hone _).mono ?_;rintro e w1 ⟨rfl,hb1⟩) | (at_builtin;refine wpList_append_lies _ rfl _ _ _ rfl w.heap.size 9 ii _ 1 16 Tryz.underlying22 hii hz0 hzz1 hzz2 rfl (by omega) u5 x _ rfl ((zbc hown hb1).alloc _) ⟨w1.heap.size,0,none⟩ 1 1 [.string (oneB x)] rfl rfl (World.news_of_block (heap_alloc_new w1 _)) (by simp [Value.oneCell']) (by omega) (by unfold maxLen;omega) (by omega) (by have:=hb1.size;simp;omega) (w1.heap.size + 1) (by simp) ?_;intro g' cap' w3 hown' hgrow hat hlt3))
   go_roundw
   case rel =>
    refine ⟨x + 1,by omega,by go_num,?_,Below.grown (Below.alloc' (hb.trans (hb1.mono hzw)) _) hgrow (by have:=hb1.size;simp;omega) (fun k hk => (hlow k hk).1)⟩
    rw [zx1,List.map_append];exact hown'
   case measure => simp [intOf];omega
  ·have hxe : x = l.size:=by omega
   subst hxe
   go_wp2_with fail
   go_ret
   exact ⟨⟨_,rfl,by rw [List.length_map,List.length_range];exact hown⟩,hb⟩
theorem zsq {a b : ByteArray} (h : a.size + b.size <= 9000000) : Op.stringOp .add a b = (pure (.string (a ++ b)) : Sem Value):=by
 unfold Op.stringOp
 simp only
 rw [if_neg]
 rw [show IntKind.i64.max = 9223372036854775807 from rfl]
 omega
theorem zz4 {ds : List ByteArray} {x : Nat} {d : ByteArray} (h : ds[x]? = some d) : (ds.take (x + 1)).map (oneB 1 ++ ·) = (ds.take x).map (oneB 1 ++ ·) ++ [oneB 1 ++ d]:=by
 rw [List.take_add_one,h,List.map_append];rfl
theorem zqn (s : ByteArray) (i : Nat) (w : World) (hs : s.size <= 9000000) (hi : i < s.size) (h : bAt s i = 91 \/ bAt s i = 63) (ds : List ByteArray) (hl : ds.length <= 20000) (hds : ∀ d ∈ ds,d.size <= 20000)
  (hcall : ∀ w,Calls Tryz.prog 78 #[.string s,.int .i64 ((i : Int) + 1)] w fun e w' => ∃ g cap,e = .returned (.slice (some ⟨g,0,none⟩) ds.length cap) /\ w'.ownsRow w.heap.size 9 1 (.slice (some ⟨g,0,none⟩) ds.length cap) ds.length (ds.map .string) /\ Below w.heap.size w w') :
  Calls Tryz.prog 78 #[.string s,.int .i64 i] w fun e w' => SmR w.heap.size (oneB 0 :: ds.map (oneB 1 ++ ·)) e w' /\ Below w.heap.size w w':=by
 have hbk:=za1 s i hi
 obtain ⟨ii,hii,hz0,hzz1,hzz2⟩:=info_parts Tryz.infoStrS
 have h1' : s[i].toNat = 91 \/ s[i].toNat = 63:=by omega
 have hone:=fun w => zcv 0 w (by omega)
 have hone1:=fun w => zcv 1 w (by omega)
 clear hbk h
 obtain ⟨T,hT⟩ : ∃ T,T = s[i].toNat:=⟨_,rfl⟩
 rcases h1' with h1' | h1' <;> (
 go_enter Tryz.func78,Tryz.ntmps78
 go_wp2_with (first | (go_at_call 78;refine (hcall _).mono ?_;rintro e w1 ⟨g,cap,rfl,hm,hb1⟩) | (go_at_call 95;refine (hone _).mono ?_;rintro e w2 ⟨rfl,hb2⟩) | (at_builtin;refine wpList_append_lies _ rfl _ _ _ rfl w1.heap.size 9 ii _ 1 16 Tryz.underlying22 hii hz0 hzz1 hzz2 rfl (by omega) (.slice none 0 0) 0 [] rfl (World.ownsRow_nil _ _ _ _) ⟨w2.heap.size,0,none⟩ 1 1 [.string (oneB 0)] rfl rfl (World.news_of_block (heap_alloc_new w2 _)) (by simp [Value.oneCell']) (by omega) (by unfold maxLen;omega) (by omega) (by have:=hb2.size;simp;omega) (w2.heap.size + 1) (by simp) ?_;intro g' cap' w3 hown' hgrow hat hlt3))
 have hb3 : Below w1.heap.size w1 w3:=Below.grown (Below.alloc' hb2 _) hgrow (by have:=hb2.size;simp;omega) (fun k hk => by simp [Value.ownBlock] at hk)
 go_loopw [5,9] (fun vl vn wr => ∃ x : Nat,x <= ds.length /\ vn = .int .i64 x /\ wr.ownsRow w1.heap.size 9 1 vl (x + 1) ((oneB 0 :: (ds.take x).map (oneB 1 ++ ·)).map .string) /\ Below w1.heap.size w1 wr) (fun _ x _ => ds.length - (intOf x).toNat)
 case atStart => exact ⟨0,Nat.zero_le _,rfl,hown',hb3⟩
 case round =>
  obtain ⟨x,hx,rfl,hown,hb⟩:=hrel
  have hlow : ∀ k,u5.ownBlock = some k -> w1.heap.size <= k /\ k < wr.heap.size:=fun k h => hown.lt k h
  have hzw:=hb.size
  by_cases hlt : x < ds.length
  ·obtain ⟨d,hd⟩ : ∃ d,ds[x]? = some d:=⟨ds[x],List.getElem?_eq_getElem hlt⟩
   have hdz:=hds d (List.mem_of_getElem? hd)
   have k0:=zaa hb (zaq hm (i:=x) (v:=.string d) (by rw [List.getElem?_map,hd];rfl))
   have hg' : g < wr.heap.size:=zaf k0
   have hsn:=zz4 hd
   have ho1 : (oneB 1).size = 1:=zai 1
   have hgw:=zaf (zaq hm (i:=x) (v:=.string d) (by rw [List.getElem?_map,hd];rfl))
   have hgne : some g ≠ u5.ownBlock:=fun h => by have:=(hlow g h.symm).1;omega
   clear hd
   have hadd : Op.stringOp .add (oneB 1) d = (pure (.string (oneB 1 ++ d)) : Sem Value):=zsq (by rw [ho1];omega)
   have hx0 := znn x
   have hx1 : (x : Int) < (ds.length : Int):=by omega
   go_wp2_with fail
   go_region_held3 (fun w' => w'.cell? ⟨g,x,none⟩ = some (.string d)) (first | go_keep | (rw [hgrow.cell_far _ (by simp;omega) hgne];assumption) | exact zaa hb4 (by assumption))
    (first | (go_at_call 95;refine (hone1 _).mono ?_;rintro e w4 ⟨rfl,hb4⟩;have hz4 : wr.heap.size <= w4.heap.size:=hb4.size) | (refine step_append_lies _ (by rfl) _ _ _ (by rfl) w1.heap.size 9 ii _ 1 16 Tryz.underlying22 hii hz0 hzz1 hzz2 rfl (by omega) u5 (x + 1) _ (by rfl) ((zbc hown.drew hb4).alloc _) ⟨w4.heap.size,0,none⟩ 1 1 [.string (oneB 1 ++ d)] (by rfl) (by rfl) (World.news_of_block (heap_alloc_new w4 _)) (by simp [Value.oneCell']) (by omega) (by unfold maxLen;omega) (by omega) (by simp;omega) (w4.heap.size + 1) (by simp) ?_;intro g' cap' w5 hown' hgrow hat hlt3))
   go_wp2_with fail
   go_roundw
   case rel =>
    refine ⟨x + 1,by omega,by go_num,?_,Below.grown (Below.alloc' (hb.drew.trans (hb4.mono hzw)) _) hgrow (by simp;omega) (fun k hk => (hlow k hk).1)⟩
    rw [hsn,List.map_cons,List.map_append];exact hown'
   case measure => simp [intOf];omega
  ·have hxe : x = ds.length:=by omega
   subst hxe
   go_wp2_with fail
   go_ret
   exact ⟨⟨_,rfl,by rw [List.length_cons,List.length_map];have:=World.ownsRow.mono hown hb1.size;rw [List.take_length] at this;exact this⟩,hb1.trans (hb.mono hb1.size)⟩)
end
section
open Go.RowKit
def trD (D : Ty -> List ByteArray) (Y : List ByteArray) : List (Nat × Ty × ByteArray) -> Nat -> List ByteArray
 | [],_ => []
 | g :: gs,p => (D g.2.1).map (fun d => (catB (Y.take p) ++ d) ++ catB (Y.drop (p + 1))) ++ trD D Y gs (p + 1)
theorem zfb : ∀ (a b : List ByteArray),catB (a ++ b) = catB a ++ catB b
 | [],b => by rw [List.nil_append,catB,ByteArray.empty_append]
 | x :: a,b => by rw [List.cons_append,catB,catB,zfb a b,ByteArray.append_assoc]
theorem ztf {n p : Nat} {ls : List Val} {u : Val} (h : p < ls.length) : catB ((ls.set p u).map (datV n)) = (catB ((ls.map (datV n)).take p) ++ datV n u) ++ catB ((ls.map (datV n)).drop (p + 1)):=by
 rw [List.set_eq_take_append_cons_drop,if_pos h,List.map_append,List.map_cons,zfb,catB,<- List.map_take,<- List.map_drop,ByteArray.append_assoc]
theorem zro {n : Nat} {f : Ty -> List Val} {ls : List Val} : ∀ (gs : List (Nat × Ty × ByteArray)) (p : Nat),p + gs.length <= ls.length ->
  (trn f ls gs p).map (datV (n + 1)) = trD (fun t => (f t).map (datV n)) (ls.map (datV n)) gs p
 | [],p,h => rfl
 | g :: gs,p,h => by
  rw [List.length_cons] at h
  rw [trn,trD,List.map_append,zro gs (p + 1) (by omega),List.map_map,List.map_map]
  congr 1
  refine List.map_congr_left fun u hu => ?_
  show datV (n + 1) (.rcd (ls.set p u)) = _
  rw [zdd,ztf (by omega)]
  rfl
end
end Go.Proofs.YtkkekopomiehlaaGreat
