import Derived.Deep.Onto
import Derived.Test.YtkkekopomiehlaaGreatCSp4
import Derived.Test.YtkkekopomiehlaaGreatCLn4
set_option linter.unusedVariables false
set_option linter.unusedSimpArgs false
set_option maxHeartbeats 40000000
namespace Go.Proofs.YtkkekopomiehlaaGreat
section
set_option maxRecDepth 8000
open Go.RowKit
open Go.Lib (below_setCells)
theorem Way.ge {α : Type} {L : List (TS α)} {g D : Nat} {v : Nat -> Nat} (h : Way L g D v) : ∀ t,t <= D -> t <= v t
 | 0,_ => Nat.zero_le _
 | t + 1,ht => by have:=Way.ge h t (by omega);have:=(h.step t (by omega)).2.1;omega
def mvOf (p : Nat) : Int × Int:=(((p / 3 : Nat) : Int),((p % 3 : Nat) : Int))
def wayM (L : List (TS SiD)) (v : Nat -> Nat) (t : Nat) : Int × Int:=match L[v (t + 1)]? with
 | some a => mvOf a.to
 | none => (0,0)
def wayL (L : List (TS SiD)) (v : Nat -> Nat) (D : Nat) : List (Int × Int):=(List.range D).map (wayM L v)
def wayB (L : List (TS SiD)) (v : Nat -> Nat) (D j : Nat) : List (Int × Int):=(List.range j).map fun i => wayM L v (D - 1 - i)
theorem zkl (a b : List (Int × Int)) : mvC (a ++ b) = mvC a ++ mvC b:=by simp [mvC]
theorem yaa7 (L : List (TS SiD)) (v : Nat -> Nat) (D j : Nat) : wayB L v D (j + 1) = wayB L v D j ++ [wayM L v (D - 1 - j)]:=by unfold wayB;rw [List.range_succ,List.map_append];rfl
theorem yaa9 (L : List (TS SiD)) (v : Nat -> Nat) (j : Nat) : wayL L v (j + 1) = wayL L v j ++ [wayM L v j]:=by unfold wayL;rw [List.range_succ,List.map_append];rfl
theorem yaa6 {L : List (TS SiD)} {v : Nat -> Nat} {D i : Nat} (hi : i < D) : (wayB L v D D)[i]? = some (wayM L v (D - 1 - i)):=by
 unfold wayB;rw [List.getElem?_map,List.getElem?_range hi];rfl
theorem zv5 {ms : List (Int × Int)} {i : Nat} {m : Int × Int} (h : ms[i]? = some m) : (mvC ms)[i * 2]? = some (.int .i64 m.1) /\ (mvC ms)[i * 2 + 1]? = some (.int .i64 m.2):=by
 have:=zkn h []
 rwa [List.append_nil] at this
theorem zzw {w : World} {g : Nat} {L : List (TS SiD)} {i : Nat} {t : TS SiD} (hr : w.rangeAt g 0 (stsC L)) (h : zc8 L) (hi : L[i]? = some t) : w.cell? ⟨g,i * 20 + 18,none⟩ = some (.int .i64 t.fr) /\ w.cell? ⟨g,i * 20 + 19,none⟩ = some (.int .i64 t.to):=by
 have hl:=(h t (List.mem_of_getElem? hi)).len
 have hr:=ziy hr h hi
 refine ⟨hr 18 _ ?_,hr 19 _ ?_⟩
 iterate 2
  ·unfold stC;rw [List.getElem?_append_right (by omega),hl];rfl
theorem zlt (w : World) (g n cap : Nat) (wn : List Bool) : (w.alloc (.cells (zan g n cap wn).toArray 71)).cell? ⟨w.heap.size,0,none⟩ = some (.slice (some ⟨g,0,none⟩) n cap):=by
 have:=zbr (zay w (.cells (zan g n cap wn).toArray 71)) 0 _ rfl
 exact this
theorem zv4 (L : List (TS SiD)) (hL : zc8 L) (hlen : L.length <= 262144) (k D : Nat) (v : Nat -> Nat) (hk : k < L.length) (hv : Way L k D v) (hto : ∀ (j : Nat) (a : TS SiD),L[j + 1]? = some a -> a.to < 9) (wn : List Bool) (g cap : Nat) (w : World) (hr : w.rangeAt g 0 (stsC L)) :
  Calls Tryz.prog 61 #[.agg (zan g L.length cap wn).toArray,.int .i64 k] w fun e W => ∃ u,e = .returned u /\ W.ownsRow w.heap.size 46 2 u D (mvC (wayL L v D)) /\ Below w.heap.size w W:=by
 have hDk : D <= k:=by have:=hv.ge D (Nat.le_refl _);rw [hv.last] at this;exact this
 obtain ⟨i0,hi0,hz0,hzz1,hzz2⟩:=info_parts Tryz.infoMvL
 have hb0:=belS w (.cells (zan g L.length cap wn).toArray 71)
 have c0:=zlt w g L.length cap wn
 have HV:= zab hv
 have HL:= zab hL
 have HRR:=(zab (zag hb0 hr))
 have HTO:= zab hto
 have hlast:=hv.last
 have hgw : g < w.heap.size:=zin hr (by rw [zix hL];omega)
 clear hv hL hr hto
 go_enter Tryz.func61,Tryz.ntmps61
 go_wp2_with fail
 go_loopw [1,5] (fun vk vb wr => ∃ j g1 c1 : Nat,j <= D /\ vk = .int .i64 ((v (D - j) : Nat) : Int) /\ vb = .slice (some ⟨g1,0,none⟩) j c1 /\ wr.ownsRow (w.heap.size + 1) 46 2 (.slice (some ⟨g1,0,none⟩) j c1) j (mvC (wayB L v D j)) /\ Below (w.heap.size + 1) (w.alloc (.cells (zan g L.length cap wn).toArray 71)) wr) (fun vk _ _ => (intOf vk).toNat)
 case atStart =>
  refine ⟨0,w.heap.size + 1,0,Nat.zero_le _,by rw [Nat.sub_zero,hlast],rfl,?_,(Below.refl (w.heap.size + 1) _).alloc (by simp) _⟩
  have h:=World.ownsRow_made (base:=w.heap.size + 1) (e:=46) (size:=2) (w.alloc (.cells (zan g L.length cap wn).toArray 71)) #[] 0 (by simp) (by unfold maxLen;omega) rfl
  rw [za2] at h;exact h
 case round =>
  obtain ⟨j,g1,c1,hj,rfl,rfl,hown,hb⟩:=hrel
  rename World => w5
  have c5 : w5.cell? ⟨w.heap.size,0,none⟩ = some (.slice (some ⟨g,0,none⟩) L.length cap):=zaa (hb.mono (by simp)) c0
  have hcl:=zaf c5
  have z5:=hb.size
  rw [za2] at z5
  have HB:= zab hb
  have HOWN:= zab hown
  obtain ⟨lN1,lN2⟩:=hown.lt g1 rfl
  have hn1 : some w.heap.size ≠ some g1:=fun e => by simp at e;omega
  have hn2 : some g ≠ some g1:=fun e => by simp at e;omega
  by_cases hlt : j < D
  ·obtain ⟨h0,hd,a,ha,haf⟩:=HV.out.step (D - j - 1) (by omega)
   rw [show D - j - 1 + 1 = D - j by omega] at h0 hd ha
   obtain ⟨m,hm⟩ : ∃ m,v (D - j) = m + 1:=⟨v (D - j) - 1,by omega⟩
   have ha2:=ha
   rw [hm] at ha2
   have hto9:=HTO.out m a ha2
   have hkl:=(List.getElem?_eq_some_iff.1 ha).1
   obtain ⟨s1,s2⟩:=zzw (zag (hb.mono (by simp)) HRR.out) HL.out ha
   have hgl:=zaf s1
   have hwm : wayM L v (D - 1 - j) = mvOf a.to:=by unfold wayM;rw [show D - 1 - j + 1 = D - j by omega,ha]
   have hB1:=yaa7 L v D j
   rw [hwm] at hB1
   have hmv:=fun W => zkj a.to hto9 W
   have hfr : a.fr = v (D - (j + 1)):=by rw [haf];congr 1
   rw [hfr] at s1
   have hd2 : v (D - (j + 1)) < v (D - j):=by rw [show D - (j + 1) = D - j - 1 by omega];exact hd
   generalize v (D - j) = kk at h0 hkl s1 s2 hd2
   have HB1:= zab hB1
   have hx0 : (0 : Int) < (kk : Int):=by omega
   have hx1 : (kk : Int) < (L.length : Int):=by omega
   clear ha ha2 hm hwm hB1 hfr haf hd hown hb hlast
   go_wp2_with (first
    | (go_at_call 72;refine (hmv _).mono ?_;rintro e w6 ⟨rfl,hb6⟩;have c6:=zaa hb6 c5;have s16:=zaa hb6 s1;have hz6:=hb6.size)
    | (at_builtin;refine wpList_append_lies _ rfl _ _ _ rfl (w.heap.size + 1) 46 i0 _ 2 16 Tryz.underlying27 hi0 hz0 hzz1 hzz2 rfl (by omega) (.slice (some ⟨g1,0,none⟩) j c1) j _ rfl ((zbc HOWN.out hb6).alloc _) ⟨w6.heap.size,0,none⟩ 1 1 [.int .i64 ((a.to / 3 : Nat) : Int),.int .i64 ((a.to % 3 : Nat) : Int)] rfl rfl (World.news_of_block (heap_alloc_new w6 _)) (by simp [Value.oneCell']) (by omega) (by unfold maxLen;omega) (by omega) (by simp;omega) (w6.heap.size + 1) (by simp) ?_;intro g2 cap2 w7 hown2 hgrow2 hat2 hlt2;have c7:=hgrow2.cell (zaw _ c6) hn1;have s17:=hgrow2.cell (zaw _ s16) hn2))
   go_roundw
   case rel =>
    have zg:=hgrow2.size
    refine ⟨j + 1,g2,cap2,by omega,rfl,rfl,by rw [HB1.out,zkl];exact hown2,?_⟩
    exact Below.grown ((HB.out.trans (hb6.mono z5)).alloc (by omega) _) hgrow2 (by simp;omega) (fun k hk => by cases hk;exact lN1)
   case measure => simp [intOf];omega
  ·obtain rfl : j = D:=by omega
   have hz0' : ((v (j - j) : Nat) : Int) = 0:=by rw [Nat.sub_self,HV.out.zero];rfl
   rw [hz0']
   have hjl : j <= 262144:=by omega
   clear hown hb hlast hz0'
   go_wp2_with fail
   go_loopw [6,7] (fun vm va wr => ∃ i g2 c2 : Nat,i <= j /\ va = .int .i64 ((j : Int) - 1 - i) /\ vm = .slice (some ⟨g2,0,none⟩) i c2 /\ wr.ownsRow (w5.heap.size) 46 2 (.slice (some ⟨g2,0,none⟩) i c2) i (mvC (wayL L v i)) /\ Below w5.heap.size w5 wr) (fun _ va _ => (intOf va + 1).toNat)
   case atStart =>
    refine ⟨0,w5.heap.size,0,Nat.zero_le _,by simp,rfl,?_,belS _ _⟩
    exact World.ownsRow_made (base:=w5.heap.size) (e:=46) (size:=2) w5 #[] 0 (Nat.le_refl _) (by unfold maxLen;omega) rfl
   case round =>
    obtain ⟨i,g2,c2,hi,rfl,rfl,hown,hb⟩:=hrel
    rename World => w6
    obtain ⟨l1,l2⟩:=hown.lt g2 rfl
    have z6:=hb.size
    have HOW2:= zab hown
    have HB2:= zab hb
    clear hown hb
    by_cases hlt : i < j
    ·have hget:=yaa6 (L:=L) (v:=v) (D:=j) (i:=j - 1 - i) (by omega)
     rw [show j - 1 - (j - 1 - i) = i by omega] at hget
     obtain ⟨m1,m2⟩:=zv5 hget
     have q1 : w6.cell? ⟨g1,(j - 1 - i) * 2,none⟩ = some (.int .i64 (wayM L v i).1):=zaa HB2.out (by rw [HOWN.out.cellAt _ (by omega)];exact m1)
     have q2 : w6.cell? ⟨g1,(j - 1 - i) * 2 + 1,none⟩ = some (.int .i64 (wayM L v i).2):=zaa HB2.out (by rw [HOWN.out.cellAt _ (by omega)];exact m2)
     have hidx : (j : Int) - 1 - i = ((j - 1 - i : Nat) : Int):=by omega
     have hS:=yaa9 L v i
     generalize wayM L v i = q at q1 q2 hS
     have HS:= zab hS
     have hg6:=zaf q1
     rw [hidx]
     have hy0 : (0 : Int) <= ((j - 1 - i : Nat) : Int):=Int.natCast_nonneg _
     have hy1 : ((j - 1 - i : Nat) : Int) < (j : Int):=by omega
     have HI:= zab hidx
     clear hidx hS hget m1 m2
     generalize j - 1 - i = r at *
     go_wp2_with (at_builtin;refine wpList_append_lies _ rfl _ _ _ rfl w5.heap.size 46 i0 _ 2 16 Tryz.underlying27 hi0 hz0 hzz1 hzz2 rfl (by omega) (.slice (some ⟨g2,0,none⟩) i c2) i _ rfl (HOW2.out.alloc _) ⟨w6.heap.size,0,none⟩ 1 1 [.int .i64 q.1,.int .i64 q.2] rfl rfl (World.news_of_block (heap_alloc_new w6 _)) (by simp [Value.oneCell']) (by omega) (by unfold maxLen;omega) (by omega) (by simp;omega) (w6.heap.size + 1) (by simp) ?_;intro g3 cap3 w7 hown3 hgrow3 hat3 hlt3)
     go_roundw
     case rel =>
      refine ⟨i + 1,g3,cap3,by omega,by rw [<- HI.out];congr 1;omega,rfl,by rw [HS.out,zkl];exact hown3,?_⟩
      exact Below.grown (HB2.out.alloc (by omega) _) hgrow3 (by simp;omega) (fun k hk => by cases hk;exact l1)
     case measure => simp [intOf]
    ·obtain rfl : i = j:=by omega
     have e1 : (i : Int) - 1 - i = -1:=by omega
     rw [e1]
     clear e1
     go_wp2_with fail
     go_ret
     exact ⟨_,rfl,HOW2.out.mono (by omega),thn3 (hb0.trans (HB.out.mono (by simp))) HB2.out⟩
end
section
set_option maxRecDepth 8000
open Go.RowKit
open Go.Lib (below_setCells)
theorem zje (g n cap : Nat) (wn : List Bool) (w : World) : Calls Tryz.prog 35 #[.agg (zan g n cap wn).toArray] w fun e W => e = .returned (.int .i64 n) /\ Below w.heap.size w W:=by
 have c0:=zlt w g n cap wn
 go_enter Tryz.func35,Tryz.ntmps35
 go_wp2_with fail
 go_ret
 exact ⟨rfl,belS _ _⟩
theorem zrn {w : World} {b g n cap : Nat} {wn : List Bool} (h : w.rangeAt b 0 (zan g n cap wn)) : w.rangeAt b 1 (wn.map Value.bool):=by
 have:=zc4 (k:=1) (ds:=wn.map Value.bool) h (fun j v hj => by rw [Nat.add_comm,zan,List.getElem?_cons_succ];exact hj)
 rwa [Nat.zero_add] at this
def zzd (L : List (TS SiD)) (wn : List Bool) (B : Nat) (e : Ending) (W : World) : Prop :=
 ((∀ t ∈ L,t.now.has ≠ wn) /\ e = .returned (.tuple #[.slice none 0 0,.bool false])) \/
 ∃ (k D : Nat) (v : Nat -> Nat) (t : TS SiD) (u : Value),L[k]? = some t /\ t.now.has = wn /\ (∀ (i : Nat) (s : TS SiD),i < k -> L[i]? = some s -> s.now.has ≠ wn) /\ Way L k D v /\ e = .returned (.tuple #[u,.bool true]) /\ W.ownsRow B 46 2 u D (mvC (wayL L v D))
theorem zsm (nx : SiD -> Nat -> Option SiD) (L : List (TS SiD)) (hL : zc8 L) (hlen : L.length <= 262144) (T : Nat) (hI : TInv nx L T) (wn : List Bool) (hw : wn.length = 9) (g cap : Nat) (w : World) (hr : w.rangeAt g 0 (stsC L)) :
  Calls Tryz.prog 36 #[.agg (zan g L.length cap wn).toArray] w fun e W => zzd L wn w.heap.size e W /\ Below w.heap.size w W:=by
 have hb0:=belS w (.cells (zan g L.length cap wn).toArray 71)
 have c0:=zlt w g L.length cap wn
 have hq0:=zbr (zay w (.cells (zan g L.length cap wn).toArray 71))
 have iw : (Tryz.prog.info? 49).map (·.size) = some (wn.map Value.bool).length:=by rw [List.length_map,hw];exact Tryz.infoSet
 have it : (Tryz.prog.info? 71).map (·.size) = some (zan g L.length cap wn).length:=by rw [show (zan g L.length cap wn).length = 10 by simp [zan,hw]];exact Tryz.infoTour
 have HL:= zab hL
 have HRR:=(zab (zag hb0 hr))
 have HI:= zab hI
 have HW:= zab hw
 clear hL hr hI hw
 go_enter Tryz.func36,Tryz.ntmps36
 go_wp2_with fail
 go_loopw [9] (fun vi wr => ∃ i : Nat,i <= L.length /\ vi = .int .i64 i /\ Hid (∀ (j : Nat) (s : TS SiD),j < i -> L[j]? = some s -> s.now.has ≠ wn) /\ wr.rangeAt w.heap.size 0 (zan g L.length cap wn) /\ Below (w.heap.size + 1) (w.alloc (.cells (zan g L.length cap wn).toArray 71)) wr) (fun i _ => L.length - (intOf i).toNat)
 case atStart => exact ⟨0,Nat.zero_le _,rfl,(fun j s hj => by omega),hq0,Below.refl _ _⟩
 case round =>
  obtain ⟨i,hi,rfl,hn,rq,hb⟩:=hrel
  rename World => w5
  have hbw : Below w.heap.size w w5:=hb0.trans (hb.mono (by simp))
  by_cases hlt : i < L.length
  ·obtain ⟨t,ht⟩ : ∃ t,L[i]? = some t:=⟨L[i],List.getElem?_eq_getElem hlt⟩
   have hto:=HL.out t (List.mem_of_getElem? ht)
   have r1:=ziy (zag (hb.mono (by simp)) HRR.out) HL.out ht
   have heq : ∀ W,(Op.equalIn 10000 49 (.agg (t.now.has.map Value.bool).toArray) (.agg (wn.map Value.bool).toArray)).run Tryz.prog W = .ok (decide (t.now.has = wn)) W:=fun W => zlj W 9998 hto.1 HW.out
   have h20 : (stC t).toArray.size = 20:=by simpa using zdq hto
   have hi20 : (Tryz.prog.info? 123).map (·.size) = some (stC t).length:=by rw [zdq hto];exact Tryz.infoStp
   have hi21 : (Tryz.prog.info? 123).map (·.size) = some (stC t).toArray.size:=by rw [List.size_toArray];exact hi20
   have ih : (Tryz.prog.info? 49).map (·.size) = some (t.now.has.map Value.bool).length:=by rw [List.length_map,hto.1];exact Tryz.infoSet
   have h1:=ziw t
   have h6 : ∀ cs : Array Value,cs.size = 20 -> (fun W => W.rangeAt w5.heap.size 0 (t.now.has.map Value.bool) /\ W.rangeAt w.heap.size 0 (zan g L.length cap wn) /\ Below (w.heap.size + 1) (w.alloc (.cells (zan g L.length cap wn).toArray 71)) W) ((w5.alloc (.cells cs 123)).setCells w5.heap.size 0 (stC t)):=fun cs hcs => by
    have z5:=hb.size
    rw [za2] at z5
    refine ⟨?_,?_,?_⟩
    ·have:=zc4 (k:=0) (ds:=t.now.has.map Value.bool) (World.rangeAt_setCells_same _ w5.heap.size 0 (stC t) (by simpa using zda (xs:=(stC t).toArray) (t:=123) h20 hcs)) (fun j v hj => by
      have hl:=(List.getElem?_eq_some_iff.1 hj).1
      rw [Nat.zero_add];unfold stC SiD.cells
      rw [List.getElem?_append_left (by simp at hl ⊢;omega),List.map_append,List.getElem?_append_left hl];exact hj)
     exact this
    ·exact World.rangeAt_setCells_apart (zag (belS _ _) rq) _ _ _ (.inl (by omega))
    ·exact below_setCells _ (by omega) _ _ (hb.alloc (by omega) _)
   have H6:= zab h6
   have hx0 := znn i
   have hx1 : (i : Int) < (L.length : Int):=by omega
   have HT:= zab ht
   clear h6 ht
   by_cases hx : t.now.has = wn
   ·have HX:= zab hx
    rw [decide_eq_true hx] at heq
    obtain ⟨D,v,hway⟩:=zr4 HI.out i i (Nat.le_refl _) hlt
    have hmt:=fun (W : World) (h : W.rangeAt g 0 (stsC L)) => zv4 L HL.out hlen i D v hlt hway (fun j a ha => (HI.out.tm j a ha).2.2.1) wn g cap W h
    have rg5:=zag (hb.mono (by simp)) HRR.out
    have hgl : g < w5.heap.size:=zin rg5 (by rw [zix HL.out];omega)
    have hgw : g < w.heap.size + 1:=by
     have:=zin HRR.out (by rw [zix HL.out];omega);rw [za2] at this;exact this
    have HWY:= zab hway
    clear hx hway
    go_wp2_with (first
     | (refine wpList_load_mid (w:=w5) rfl 123 _ rfl g (i * 20) rfl (stC t) _ r1 Tryz.underlying123 rfl hi20 ?_;simp only [Act.put,List.setIfInBounds_toArray,List.set_cons_zero,List.set_cons_succ,List.getElem_toArray,List.getElem_cons_zero,List.getElem_cons_succ])
     | (refine zcq rfl 123 _ _ rfl w5.heap.size 0 (stC t).toArray rfl rfl (zda h20 (by rfl)) hi21 h1 (fun W => W.rangeAt w5.heap.size 0 (t.now.has.map Value.bool) /\ W.rangeAt w.heap.size 0 (zan g L.length cap wn) /\ Below (w.heap.size + 1) (w.alloc (.cells (zan g L.length cap wn).toArray 71)) W) (H6.out _ (by rfl)) ?_;rintro w6 ⟨q1,q2,q3⟩;have qw:=zrn q2;simp only [Act.put,List.setIfInBounds_toArray,List.set_cons_zero,List.set_cons_succ,List.getElem_toArray,List.getElem_cons_zero,List.getElem_cons_succ];have m0 : True:=trivial)
     | (have hq:=m2;refine zjc rfl 49 _ _ _ rfl _ _ rfl rfl Tryz.eqgSet _ (heq _) ?_;simp only [Act.put,List.setIfInBounds_toArray,List.set_cons_zero,List.set_cons_succ,List.getElem_toArray,List.getElem_cons_zero,List.getElem_cons_succ])
     | (have hq:=m1;refine wpList_load_mid (w:=w6) rfl 49 _ rfl w.heap.size 1 rfl (wn.map Value.bool) _ qw Tryz.underlying49 rfl iw ?_;simp only [Act.put,List.setIfInBounds_toArray,List.set_cons_zero,List.set_cons_succ,List.getElem_toArray,List.getElem_cons_zero,List.getElem_cons_succ];have m2 : True:=trivial)
     | (have hq:=m0;refine wpList_load_mid (w:=w6) rfl 49 _ rfl w5.heap.size 0 rfl (t.now.has.map Value.bool) _ q1 Tryz.underlying49 rfl ih ?_;simp only [Act.put,List.setIfInBounds_toArray,List.set_cons_zero,List.set_cons_succ,List.getElem_toArray,List.getElem_cons_zero,List.getElem_cons_succ];have m1 : True:=trivial)
     | (have hq:=m2;refine wpList_load_mid (w:=w6) rfl 71 _ rfl w.heap.size 0 rfl (zan g L.length cap wn) _ q2 Tryz.underlying71 rfl it ?_;simp only [Act.put,List.setIfInBounds_toArray,List.set_cons_zero,List.set_cons_succ,List.getElem_toArray,List.getElem_cons_zero,List.getElem_cons_succ])
     | (go_at_call 61;refine (hmt _ (zag (q3.mono (by simp)) HRR.out)).mono ?_;rintro e w7 ⟨u,rfl,hown7,hb7⟩))
    go_ret2
    have hb8 : Below w.heap.size w w6:=hb0.trans (q3.mono (by simp))
    exact ⟨.inr ⟨i,D,v,t,u,HT.out,HX.out,hn.out,HWY.out,rfl,hown7.mono hb8.size⟩,thn3 hb8 hb7⟩
   ·rw [decide_eq_false hx] at heq
    have HX:= zab hx
    clear hx
    go_wp2_with (first
     | (refine wpList_load_mid (w:=w5) rfl 123 _ rfl g (i * 20) rfl (stC t) _ r1 Tryz.underlying123 rfl hi20 ?_;simp only [Act.put,List.setIfInBounds_toArray,List.set_cons_zero,List.set_cons_succ,List.getElem_toArray,List.getElem_cons_zero,List.getElem_cons_succ])
     | (refine zcq rfl 123 _ _ rfl w5.heap.size 0 (stC t).toArray rfl rfl (zda h20 (by rfl)) hi21 h1 (fun W => W.rangeAt w5.heap.size 0 (t.now.has.map Value.bool) /\ W.rangeAt w.heap.size 0 (zan g L.length cap wn) /\ Below (w.heap.size + 1) (w.alloc (.cells (zan g L.length cap wn).toArray 71)) W) (H6.out _ (by rfl)) ?_;rintro w6 ⟨q1,q2,q3⟩;have qw:=zrn q2;simp only [Act.put,List.setIfInBounds_toArray,List.set_cons_zero,List.set_cons_succ,List.getElem_toArray,List.getElem_cons_zero,List.getElem_cons_succ];have m0 : True:=trivial)
     | (have hq:=m2;refine zjc rfl 49 _ _ _ rfl _ _ rfl rfl Tryz.eqgSet _ (heq _) ?_;simp only [Act.put,List.setIfInBounds_toArray,List.set_cons_zero,List.set_cons_succ,List.getElem_toArray,List.getElem_cons_zero,List.getElem_cons_succ])
     | (have hq:=m1;refine wpList_load_mid (w:=w6) rfl 49 _ rfl w.heap.size 1 rfl (wn.map Value.bool) _ qw Tryz.underlying49 rfl iw ?_;simp only [Act.put,List.setIfInBounds_toArray,List.set_cons_zero,List.set_cons_succ,List.getElem_toArray,List.getElem_cons_zero,List.getElem_cons_succ];have m2 : True:=trivial)
     | (have hq:=m0;refine wpList_load_mid (w:=w6) rfl 49 _ rfl w5.heap.size 0 rfl (t.now.has.map Value.bool) _ q1 Tryz.underlying49 rfl ih ?_;simp only [Act.put,List.setIfInBounds_toArray,List.set_cons_zero,List.set_cons_succ,List.getElem_toArray,List.getElem_cons_zero,List.getElem_cons_succ];have m1 : True:=trivial))
    go_roundw
    case rel =>
     refine ⟨i + 1,by omega,by go_num,fun j s hj hs => ?_,q2,q3⟩
     by_cases hji : j = i
     ·subst hji;rw [HT.out] at hs;cases hs;exact HX.out
     ·exact hn.out j s (by omega) hs
    case measure => simp [intOf];omega
  ·have hno : ∀ t ∈ L,t.now.has ≠ wn:=fun t ht => by
    obtain ⟨j,hj⟩:=List.getElem?_of_mem ht
    exact hn.out j t (by have:=(List.getElem?_eq_some_iff.1 hj).1;omega) hj
   have HNO:= zab hno
   clear hn hno
   go_wp2_with fail
   go_ret2
   exact ⟨.inl ⟨HNO.out,rfl⟩,hbw⟩
end
section
open Go.RowKit
def atB (s : ByteArray) (x c : Int) : Bool:=decide (0 <= x) && (bAt s x.toNat == c)
theorem zji (s : ByteArray) (i : Nat) (c : Int) : atB s i c = (bAt s i == c):=by simp [atB]
theorem zjj {s : ByteArray} {x : Int} {i : Nat} (h : x = i) (c : Int) : atB s x c = (bAt s i == c):=by rw [h,zji]
theorem zbe {s : ByteArray} {x : Int} {i : Nat} {c : Int} (h : x = i) (hb : bAt s i = c) : atB s x c = true:=by rw [zjj h,hb];simp
theorem zbb {s : ByteArray} {x : Int} {i : Nat} {c : Int} (h : x = i) (hb : ¬ bAt s i = c) : atB s x c = false:=by rw [zjj h];simpa using hb
theorem zah (s : ByteArray) (x c : Int) (w : World) (hc : 0 <= c) (_hs : s.size <= 9000000) :
  Calls Tryz.prog 93 #[.string s,.int .i64 x,.int .u8 c] w fun e w' => e = .returned (.bool (atB s x c)) /\ w' = w:=by
 by_cases h0 : 0 <= x
 ·obtain ⟨i,rfl⟩ : ∃ n : Nat,x = n:=⟨x.toNat,by omega⟩
  by_cases hi : i < s.size
  ·have hr : Hid (atB s i c = ((s[i].toNat : Int) == c)):=by show _ = _;rw [zji,za1 s i hi]
   go_enter Tryz.func93,Tryz.ntmps93
   go_wp2
   all_goals (go_ret;refine ⟨za9 ?_,rfl⟩;rw [hr.out];try simp_all)
  ·have hr : Hid (atB s i c = false):=by show _ = _;rw [zji,zci s i (by omega)];simp;omega
   go_enter Tryz.func93,Tryz.ntmps93
   go_wp2
   go_ret;exact ⟨za9 (by rw [hr.out];try (simp;omega)),rfl⟩
 ·have hr : Hid (atB s x c = false):=by show _ = _;unfold atB;simp [h0]
  go_enter Tryz.func93,Tryz.ntmps93
  go_wp2
  go_ret;exact ⟨za9 (by rw [hr.out];try (simp;omega)),rfl⟩
theorem zck (b : Int) (w : World) :
  Calls Tryz.prog 114 #[.int .u8 b] w fun e w' => e = .returned (.bool (isL b)) /\ w' = w:=by
 go_enter Tryz.func114,Tryz.ntmps114
 go_wp2
 all_goals (go_ret;exact ⟨za9 (by simp [isL] <;> omega),rfl⟩)
theorem zfn (b : Int) (w : World) :
  Calls Tryz.prog 133 #[.int .u8 b] w fun e w' => e = .returned (.bool (inS b)) /\ w' = w:=by
 go_enter Tryz.func133,Tryz.ntmps133
 go_wp2
 all_goals (go_ret;exact ⟨za9 (by simp [inS] <;> omega),rfl⟩)
theorem zcv (n : Nat) (w : World) (_hn : n < 256) :
  Calls Tryz.prog 95 #[.int .i64 n] w fun e w' => e = .returned (.string (oneB n)) /\ Below w.heap.size w w':=by
 have hc:=run_convert_bytes_arg (P:=Tryz.prog) (w.alloc (.cells #[.int .u8 n] 5)) 177 5 (Tryz.underlying177) (Tryz.underlying5) w.heap.size 0 1 1 [(n : Int)] rfl (fun i hi => by cases i with | zero => simp | succ => omega) 9 (Tryz.underlying9)
 go_enter Tryz.func95,Tryz.ntmps95
 go_wp2
 go_ret
 exact ⟨zcy (by simp [oneB,strOfNums]),(Below.refl _ _).alloc (Nat.le_refl _) _⟩
theorem zo4 (x : Int) (w : World) (h0 : 0 <= x) (h1 : x < 256) :
  Calls Tryz.prog 95 #[.int .i64 x] w fun e w' => e = .returned (.string (oneB x.toNat)) /\ Below w.heap.size w w':=by
 obtain ⟨n,rfl⟩ : ∃ n : Nat,x = n:=⟨x.toNat,by omega⟩
 exact zcv n w (by omega)
theorem zey (s : ByteArray) (i : Nat) (w : World) (_hs : s.size <= 9000000) (hi : i < s.size) :
  Calls Tryz.prog 91 #[.string s,.int .i64 i] w fun e w' => e = .returned (.string (s.extract (i + 1) (zap isL s (s.size - (i + 1)) (i + 1)))) /\ w' = w:=by
 obtain ⟨E,hE⟩ : ∃ E,E = zap isL s (s.size - (i + 1)) (i + 1):=⟨_,rfl⟩
 rw [<- hE]
 have HE : Hid (E = zap isL s (s.size - (i + 1)) (i + 1)):=hE
 clear hE
 go_enter Tryz.func91,Tryz.ntmps91
 go_wp2_with fail
 go_loop [5] (fun v => ∃ k : Nat,i + 1 <= k /\ k <= s.size /\ v = .int .i64 k /\ Hid (E = zap isL s (s.size - k) k)) (fun v => s.size - (intOf v).toNat)
 case atStart => exact ⟨i + 1,Nat.le_refl _,hi,by go_num,HE⟩
 case round =>
  obtain ⟨k,hak,hk,rfl,hp⟩:=hrel
  by_cases hlt : k < s.size
  ·have hbk : Hid (bAt s k = s[k].toNat):=za1 s k hlt
   cases hl : isL (s[k].toNat : Int) with
   | true =>
    go_wp2_with (go_at_call 114;refine (zck _ _).mono ?_;rintro e w' ⟨rfl,rfl⟩)
    go_round
    case rel => exact ⟨k + 1,by omega,by omega,by go_num,ze2 _ _ _ _ hp.out hlt (by rw [hbk.out];exact hl)⟩
    case measure => simp [intOf];omega
   | false =>
    have hEk:=zd4 _ _ _ _ hp.out (show isL (bAt s k) = false by rw [hbk.out];exact hl)
    have HEk : Hid (E = k):=hEk
    clear hEk
    go_wp2_with (go_at_call 114;refine (zck _ _).mono ?_;rintro e w' ⟨rfl,rfl⟩)
    go_ret
    exact ⟨zcy (by rw [HEk.out]),rfl⟩
  ·have HEk : Hid (E = k):=zd4 _ _ _ _ hp.out (by rw [zci s k (by omega)];rfl)
   go_wp2_with fail
   go_ret
   exact ⟨zcy (by rw [HEk.out]),rfl⟩
def tw (l : ByteArray) : Bool:=(List.range l.size).any fun i => (List.range i).any fun j => bAt l i == bAt l j
theorem zi7 {l : ByteArray} {i j : Nat} (h1 : j < i) (h2 : i < l.size) (h : bAt l i = bAt l j) : tw l = true:=by
 unfold tw;rw [List.any_eq_true]
 exact ⟨i,by simpa using h2,by rw [List.any_eq_true];exact ⟨j,by simpa using h1,by simpa using h⟩⟩
theorem zlw {l : ByteArray} (h : ∀ i j,j < i -> i < l.size -> bAt l i ≠ bAt l j) : tw l = false:=by
 unfold tw;rw [List.any_eq_false];intro i hi
 simp only [List.mem_range] at hi
 rw [Bool.not_eq_true,List.any_eq_false]
 intro j hj
 simp only [List.mem_range] at hj
 simpa using h i j hj hi
theorem zcf (l : ByteArray) (w : World) (_hs : l.size <= 9000000) :
  Calls Tryz.prog 92 #[.string l] w fun e w' => e = .returned (.bool (tw l)) /\ Below w.heap.size w w':=by
 go_enter Tryz.func92,Tryz.ntmps92
 go_wp2_with fail
 go_loopw [3] (fun v wr => ∃ i : Nat,i <= l.size /\ v = .int .i64 i /\ Hid (∀ a b,b < a -> a < i -> bAt l a ≠ bAt l b) /\ Below w.heap.size w wr) (fun v _ => l.size - (intOf v).toNat)
 case atStart => exact ⟨0,Nat.zero_le _,rfl,fun a b _ h => by omega,Below.refl _ _⟩
 case round =>
  obtain ⟨i,hi,rfl,hno,hb⟩:=hrel
  by_cases hlt : i < l.size
  ·have hbi : Hid (bAt l i = l[i].toNat):=za1 l i hlt
   obtain ⟨wo,rfl⟩ : ∃ wo : World,wo = wr:=⟨_,rfl⟩
   go_wp2_with fail
   go_loopw [4] (fun v wr => ∃ j : Nat,j <= i /\ v = .int .i64 j /\ Hid (∀ b,b < j -> bAt l i ≠ bAt l b) /\ Below w.heap.size w wr) (fun v _ => i - (intOf v).toNat)
   case atStart => exact ⟨0,Nat.zero_le _,rfl,fun b h => by omega,hb⟩
   case round =>
    obtain ⟨j,hj,rfl,hno2,hb2⟩:=hrel
    by_cases hlt2 : j < i
    ·have hjl : j < l.size:=by omega
     have hbj : Hid (bAt l j = l[j].toNat):=za1 l j hjl
     by_cases he : (l[i].toNat : Int) = l[j].toNat
     ·have he' : ((l[i].toNat : Int) == (l[j].toNat : Int)) = true:=by simpa using he
      have HE : Hid ((l[i].toNat : Int) = l[j].toNat):=he
      clear he
      go_wp2_with fail
      go_quiet (fail)
      go_wp2_with fail
      go_ret
      exact ⟨za9 (zi7 hlt2 hlt (by rw [hbi.out,hbj.out];exact HE.out)).symm,below_drewN hb2 _⟩
     ·have he' : ((l[i].toNat : Int) == (l[j].toNat : Int)) = false:=by simpa using he
      have HE : Hid (¬ (l[i].toNat : Int) = l[j].toNat):=he
      clear he
      go_wp2_with fail
      go_quiet (fail)
      go_wp2_with fail
      go_roundw
      case rel =>
       refine ⟨j + 1,by omega,by go_num,?_,below_drewN hb2 _⟩
       intro b hb3
       by_cases e : b = j
       ·subst e;rw [hbi.out,hbj.out];exact HE.out
       ·exact hno2.out b (by omega)
      case measure => simp [intOf];omega
    ·go_wp2_with fail
     go_roundw
     case rel =>
      refine ⟨i + 1,by omega,by go_num,?_,hb2⟩
      intro a b h1 h2
      by_cases e : a = i
      ·subst e;exact hno2.out b (by omega)
      ·exact hno.out a b h1 (by omega)
     case measure => simp [intOf];omega
  ·go_wp2_with fail
   go_ret
   exact ⟨za9 (zlw (fun a b h1 h2 => hno.out a b h1 (by omega))).symm,hb⟩
end
end Go.Proofs.YtkkekopomiehlaaGreat
