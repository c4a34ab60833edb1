import Derived.Test.YtkkekopomiehlabCTy2
set_option linter.unusedVariables false
set_option linter.unusedSimpArgs false
set_option maxHeartbeats 40000000
set_option maxRecDepth 4000
namespace Go.Proofs.Ytkkekopomiehlab
section
open Go.RowKit
theorem Try.infoBlsK : (Try.prog.info? 61).map (fun i => (i.zero,i.size,i.bytes)) = some (some (.slice none 0 0),1,24):=by kernel_rfl
theorem Try.infoBlK : (Try.prog.info? 4).map (fun i => (i.zero,i.size,i.bytes)) = some (some (.bool false),1,1):=by kernel_rfl
def RwB (w : World) (u : Value) (r : List Bool) : Prop:=∃ (g c : Nat) (cs : List Value),u = .slice (some ⟨g,0,none⟩) r.length c /\ RowIs w g 4 cs /\ cs.take r.length = r.map Value.bool
theorem RwB.keep {w w' : World} {u : Value} {r : List Bool} (h : RwB w u r) (hb : Below w.heap.size w w') : RwB w' u r:=by
 obtain ⟨g,c,cs,h1,h2,h3⟩:=h
 exact ⟨g,c,cs,h1,h2.keep hb,h3⟩
theorem RwB.of {w : World} {B n : Nat} {v : Value} {r : List Bool} (h : w.ownsRow B 4 1 v n (r.map Value.bool)) (hn : 0 < n) : RwB w v r:=by
 obtain ⟨hl,⟨_,h⟩ | ⟨g,cap,cur,rfl,hb,hh,hc,hm,hs,ht⟩⟩:=h
 ·omega
 ·have hr : r.length = n:=by simpa using hl
  refine ⟨g,cap,cur.toList,by rw [hr],by unfold RowIs;simpa using hh,by rw [hr];simpa using ht⟩
def RwsB (w : World) (us : List Value) (M : List (List Bool)) : Prop:=∀ (k : Nat) (u : Value),us[k]? = some u -> ∃ r,M[k]? = some r /\ RwB w u r
theorem RwsB.keep {w w' : World} {us : List Value} {M : List (List Bool)} (h : RwsB w us M) (hb : Below w.heap.size w w') : RwsB w' us M:=fun k u hu => by
 obtain ⟨r,h1,h2⟩:=h k u hu;exact ⟨r,h1,h2.keep hb⟩
theorem RwsB.snoc {w w' : World} {us : List Value} {M : List (List Bool)} {o : Obj} {B n size : Nat} {vt u : Value} {r : List Bool} {xs : List Value} (h : RwsB w us M) (hu : RwB w u r) (hM : M[us.length]? = some r) (hown : w.ownsRow B 61 size vt n xs) (hg : (w.alloc o).grownBy w' vt.ownBlock) : RwsB w' (us ++ [u]) M:=fun k x hx => by
 have key : ∀ {u r},RwB w u r -> RwB w' u r:=fun hh => by
  obtain ⟨g,c,cs,h1,h2,h3⟩:=hh
  exact ⟨g,c,cs,h1,(h2.keep (bel1 _ _)).grown hg (zmu hown h2 (by decide)),h3⟩
 by_cases hk : k < us.length
 ·rw [List.getElem?_append_left hk] at hx
  obtain ⟨r',h1,h2⟩:=h k x hx
  exact ⟨r',h1,key h2⟩
 ·have hk2 : k = us.length:=by have:=(List.getElem?_eq_some_iff.1 hx).1;simp at this;omega
  subst hk2
  simp at hx;subst hx
  exact ⟨r,hM,key hu⟩
theorem RwsB.mat {w : World} {B n : Nat} {v : Value} {us : List Value} {M : List (List Bool)} (h : RwsB w us M) (hown : w.ownsRow B 61 1 v n us) (hM : M.length = n) : ∃ a c,v = .slice a n c /\ MatAt w a M:=by
 obtain ⟨hl,⟨rfl,rfl⟩ | ⟨g,cap,cur,rfl,hb,hh,hc,hm,hs,ht⟩⟩:=hown
 ·exact ⟨none,0,rfl,fun i r hi => by have:=(List.getElem?_eq_some_iff.1 hi).1;omega⟩
 ·refine ⟨_,_,rfl,fun i r hi => ?_⟩
  have hil:=(List.getElem?_eq_some_iff.1 hi).1
  obtain ⟨u,hu⟩ : ∃ u,us[i]? = some u:=⟨us[i]'(by omega),List.getElem?_eq_getElem _⟩
  obtain ⟨r',h1,g',c',cs,h2,h3,h4⟩:=h i u hu
  rw [hi] at h1;cases h1
  refine ⟨g,0,g',c',rfl,?_,fun j x hj => ?_⟩
  ·have hr : RowIs w g 61 cur.toList:=by unfold RowIs;simpa using hh
   rw [Nat.zero_add,<- h2]
   refine hr.cell ?_
   rw [<- ht,List.getElem?_take] at hu
   split at hu
   ·exact hu
   ·cases hu
  ·refine h3.cell ?_
   have hj2 : (cs.take r.length)[j]? = some (.bool x):=by rw [h4,List.getElem?_map,hj];rfl
   rw [List.getElem?_take] at hj2
   split at hj2
   ·exact hj2
   ·cases hj2
theorem zlm {s t : ByteArray} (h1 : s.size <= 60 /\ (pAll false s).isSome = true) (h2 : t.size <= 60 /\ (pAll false t).isSome = true) : (((zcm s t).2 == (0 : Int)) = fitB s t):=by
 obtain ⟨x,hx⟩:=Option.isSome_iff_exists.1 h1.2
 obtain ⟨r,hr⟩:=Option.isSome_iff_exists.1 h2.2
 unfold zcm fitB
 rw [if_neg (by omega),hx,hr]
 simp only
 cases unV (s.size + t.size) s.size x r <;> rfl
theorem zh0 {f : zac} (ho : Ord f) (i : Nat) (s : ByteArray) (hi : f.ss[i]? = some s) : s.size <= 60 /\ (pAll false s).isSome = true:=by
 have h:=ho.sch
 unfold zbj at h
 rw [Bool.and_eq_true,List.all_eq_true] at h
 have:=h.2 s (List.mem_of_getElem? hi)
 unfold schB at this
 rw [Bool.and_eq_true] at this
 exact ⟨of_decide_eq_true this.1,this.2⟩
theorem zo0 (f : zac) (ho : Ord f) (sa ta va : Option Addr) (sl sc tl tc vl vc : Nat) (w : World) (hf : FleetAt w sa sl sc ta tl tc va vl vc f) :
  Calls Try.prog 9 #[.agg #[.slice sa sl sc,.slice ta tl tc,.slice va vl vc]] w fun e W => ∃ a c,e = .returned (.slice a f.ss.length c) /\ MatAt W a (fitM f.ss) /\ Below w.heap.size w W:=by
 have f0:=box3 w (.slice sa sl sc) (.slice ta tl tc) (.slice va vl vc) 26
 have hb0:=bel1 w (.cells #[.slice sa sl sc,.slice ta tl tc,.slice va vl vc] 26)
 have h8:=ho.ss8
 have hs1:=hf.s1
 obtain ⟨v1a,v1b⟩ : sl <= f.ss.length /\ f.ss.length <= sl:=by omega
 obtain ⟨iT,hiT,zT0,zT1,zT2⟩:=info_parts Try.infoBlsK
 obtain ⟨iB,hiB,zB0,zB1,zB2⟩:=info_parts Try.infoBlK
 have HF:= zab hf
 have HO:= zab ho
 clear hf ho hs1
 go_enter Try.func9,Try.ntmps9
 go_wp2_with fail
 go_loopw [3,4] (fun vt vi wr => ∃ (i : Nat) (us : List Value),i <= sl /\ vi = .int .i64 i /\ wr.ownsRow (w.heap.size + 1) 61 1 vt i us /\ Hid (RwsB wr us (fitM f.ss)) /\ Below (w.heap.size + 1) (w.alloc (.cells #[.slice sa sl sc,.slice ta tl tc,.slice va vl vc] 26)) wr) (fun _ i _ => sl - (intOf i).toNat)
 case atStart => exact ⟨0,[],Nat.zero_le _,rfl,World.ownsRow_nil _ _ _ _,(fun k u h => by simp at h),Below.refl _ _⟩
 case round =>
  obtain ⟨i,us,hi,rfl,hown,HRW,hb⟩:=hrel
  rename World => w5
  have hb' : Below (w.alloc (.cells #[.slice sa sl sc,.slice ta tl tc,.slice va vl vc] 26)).heap.size (w.alloc (.cells #[.slice sa sl sc,.slice ta tl tc,.slice va vl vc] 26)) w5:=hb.mono (by simp)
  have f5:=zah hb' f0
  have hbw:=thn3 hb0 hb'
  have z5:=zag f5.1
  have hx0 := znn i
  have hul:=hown.1
  have HOWN:= zab hown
  have HB:= zab hb
  by_cases hlt : i < sl
  ·obtain ⟨s,hs⟩ : ∃ s,f.ss[i]? = some s:=⟨f.ss[i]'(by omega),List.getElem?_eq_getElem _⟩
   obtain ⟨bs,os,rfl,cs0⟩:=HF.out.s4 i s hs
   have HCS:= zab cs0
   have hx1 : (i : Int) < (sl : Int):=by omega
   clear hown hb hb' cs0
   go_wp2_with fail
   go_loopw [5,6] (fun vr vj wr => ∃ (j : Nat) (r : List Bool),j <= sl /\ vj = .int .i64 j /\ Hid (r = (f.ss.take j).map fun t => fitB s t) /\ wr.ownsRow w5.heap.size 4 1 vr j (r.map Value.bool) /\ Below w5.heap.size w5 wr) (fun _ j _ => sl - (intOf j).toNat)
   case atStart => exact ⟨0,[],Nat.zero_le _,rfl,rfl,World.ownsRow_nil _ _ _ _,Below.refl _ _⟩
   case round =>
    obtain ⟨j,r,hj,rfl,HR,hownr,hb6⟩:=hrel
    rename World => w6
    have f6:=zah hb6 f5
    have z6:=hb6.size
    have hy0 := znn j
    have HOR:= zab hownr
    have HB6:= zab hb6
    by_cases hlj : j < sl
    ·obtain ⟨t,ht⟩ : ∃ t,f.ss[j]? = some t:=⟨f.ss[j]'(by omega),List.getElem?_eq_getElem _⟩
     obtain ⟨bt,ot,hbt,ct0⟩:=HF.out.s4 j t ht
     cases hbt
     have ct:=zaa (thn3 hbw hb6) ct0
     have ci:=zaa (thn3 hbw hb6) HCS.out
     have lt6:=zag ct
     have hy1 : (j : Int) < (sl : Int):=by omega
     have k1:=zh0 HO.out i s hs
     have k2:=zh0 HO.out j t ht
     have hfit:=fun W => zj2 s t (by unfold maxLen;omega) (by unfold maxLen;omega) (fun x hx h60 => zh2 hx h60 _) W
     have hfe:=zlm k1 k2
     have hr1 : r ++ [fitB s t] = (f.ss.take (j + 1)).map fun t => fitB s t:=by rw [List.take_add_one,ht,List.map_append,HR.out];rfl
     have HR1:= zab hr1
     generalize (zcm s t).1 = z1 at hfit
     generalize (zcm s t).2 = z2 at hfit hfe
     generalize fitB s t = x at hfe HR1
     clear k1 k2 hr1 hownr hb6 ht hs
     have f60:=f6.1
     go_wp2_with fail
     go_region_held3 (fun w' => w'.cell? ⟨w.heap.size,0,none⟩ = some (.slice (some ⟨bs,os,none⟩) sl sc) /\ w'.cell? ⟨bs,os + i,none⟩ = some (.string s) /\ w'.cell? ⟨bs,os + j,none⟩ = some (.string t)) (go_keep) (first | (go_at_call 23;refine (hfit _).mono ?_;rintro e w7 ⟨rfl,hb7⟩;have p1:=zaa hb7 f60;have p2:=zaa hb7 ci;have p3:=zaa hb7 ct;have z7:=hb7.size))
     have hb7:=thn3 (Below.refl w6.heap.size w6).drew hb7
     have z7:=hb7.size
     go_wp2_with (at_builtin;refine wpList_append_lies _ rfl _ _ _ rfl w5.heap.size 4 iB _ 1 1 Try.underlying61 hiB zB0 zB1 zB2 rfl (by omega) u5 j _ rfl ((zbr HOR.out hb7).alloc _) ⟨w7.heap.size,0,none⟩ 1 1 [.bool x] (by rw [<- hfe];rfl) rfl (World.news_of_block (heap_alloc_new w7 _)) (by simp [Value.oneCell']) (by omega) (by unfold maxLen;omega) (by omega) (by simp;omega) (w7.heap.size + 1) (by simp) ?_;intro g2 cap2 w8 hown2 hgrow2 hat2 hlt2)
     go_roundw
     case rel =>
      refine ⟨j + 1,r ++ [x],by omega,by go_num,HR1,by rw [List.map_append];exact hown2,?_⟩
      exact Below.grown ((HB6.out.trans (hb7.mono z6)).alloc (by omega) _) hgrow2 (by simp;omega) (fun k hk => (HOR.out.lt k hk).1)
     case measure => simp [intOf];omega
    ·obtain rfl : sl = j:=by omega
     have hrl : r = f.ss.map fun t => fitB s t:=by rw [HR.out,List.take_of_length_le (by omega)]
     have hrll : r.length = sl:=by have:=HOR.out.1;simpa using this
     have hRw:=RwB.of HOR.out (by omega)
     obtain ⟨gr,crr,csr,hu5,hrow,htk⟩:=id hRw
     rw [hrll] at hu5
     subst hu5
     have hMi : (fitM f.ss)[us.length]? = some r:=by rw [show us.length = i by omega,hrl];exact zhg hs
     have HRow:= zab hRw
     have HMI:= zab hMi
     have HRW6:=(zab (HRW.out.keep hb6))
     have hz65 : w.heap.size + 1 <= w5.heap.size:=by omega
     clear hrll hRw hrow htk hMi hrl HR hownr hb6 hs
     go_wp2_with (at_builtin;refine wpList_append_lies _ rfl _ _ _ rfl (w.heap.size + 1) 61 iT _ 1 24 Try.underlying34 hiT zT0 zT1 zT2 rfl (by omega) u3 i _ rfl ((zbr HOWN.out HB6.out).alloc _) ⟨w6.heap.size,0,none⟩ 1 1 [.slice (some ⟨gr,0,none⟩) sl crr] rfl rfl (World.news_of_block (heap_alloc_new w6 _)) (by simp [Value.oneCell']) (by omega) (by unfold maxLen;omega) (by omega) (by simp;omega) (w6.heap.size + 1) (by simp) ?_;intro g2 cap2 w8 hown2 hgrow2 hat2 hlt2)
     go_roundw
     case rel =>
      refine ⟨i + 1,us ++ [.slice (some ⟨gr,0,none⟩) sl crr],by omega,by go_num,hown2,HRW6.out.snoc HRow.out HMI.out (zbr HOWN.out HB6.out) hgrow2,?_⟩
      exact Below.grown ((HB.out.trans (HB6.out.mono hz65)).alloc (by omega) _) hgrow2 (by simp;omega) (fun k hk => (HOWN.out.lt k hk).1)
     case measure => simp [intOf];omega
  ·obtain rfl : sl = i:=by omega
   obtain ⟨a,c,rfl,hM⟩:=HRW.out.mat HOWN.out (by rw [fitM,List.length_map];omega)
   have HM:= zab hM
   have hsl : sl = f.ss.length:=by omega
   clear hM hown hb hul
   go_wp2_with fail
   go_ret
   exact ⟨a,c,by rw [<- hsl];rfl,HM.out,hbw⟩
end
section
open Go.RowKit
theorem zin {f : zac} {s a : Nat} (hs : s < f.vs.length) (ha : a < rlen f.vs s) : ∃ v ps,f.vs[s]? = some v /\ v.rels[a]? = some ps:=by
 obtain ⟨v,hv⟩ : ∃ v,f.vs[s]? = some v:=⟨f.vs[s],List.getElem?_eq_getElem hs⟩
 rw [zf2 hv] at ha
 exact ⟨v,v.rels[a],hv,List.getElem?_eq_getElem ha⟩
theorem zed (f : zac) (ho : Ord f) (sa ta va fa : Option Addr) (sl sc tl tc vl vc fc : Nat) (w : World) (hf : FleetAt w sa sl sc ta tl tc va vl vc f) (hM : MatAt w fa (fitM f.ss)) (s a t b : Nat) (hs : s < f.vs.length) (ha : a < rlen f.vs s) (ht : t < f.vs.length) (hb : b < rlen f.vs t) (kept : Bool) :
  Calls Try.prog 26 #[.agg #[.slice sa sl sc,.slice ta tl tc,.slice va vl vc],.slice fa f.ss.length fc,.int .i64 s,.int .i64 a,.int .i64 t,.int .i64 b,.bool kept] w fun e W => e = .returned (.bool (claB f.ss f.ts kept (plOf f (s * 3 + a)) (plOf f (t * 3 + b)))) /\ Below w.heap.size w W:=by
 obtain ⟨v1,ps,h1,h2⟩:=zin hs ha
 obtain ⟨v2,qs,h3,h4⟩:=zin ht hb
 have a3:=(ho.rl hs).2.1
 have b3:=(ho.rl ht).2.1
 have e1:=ziq (by omega) h1 h2
 have e2:=ziq (by omega) h3 h4
 have k1:=zc0 ho (s * 3 + a)
 have k2:=zc0 ho (t * 3 + b)
 rw [e1] at k1 ⊢
 rw [e2] at k2 ⊢
 exact zkz f sa ta va fa sl sc tl tc vl vc fc w hf hM ho.ss8 s a t b v1 v2 ps qs kept h1 h2 h3 h4 k1 k2
theorem zk0 (f : zac) (ho : Ord f) (hts : ∀ k,0 <= f.ts.getD k 0) (sa ta va fa : Option Addr) (sl sc tl tc vl vc fc : Nat) (w : World) (hf : FleetAt w sa sl sc ta tl tc va vl vc f) (hM : MatAt w fa (fitM f.ss)) (s a t b : Nat) (hs : s < f.vs.length) (ha : a < rlen f.vs s) (ht : t < f.vs.length) (hb : b < rlen f.vs t) (kept : Bool) :
  Calls Try.prog 49 #[.agg #[.slice sa sl sc,.slice ta tl tc,.slice va vl vc],.slice fa f.ss.length fc,.int .i64 s,.int .i64 a,.int .i64 t,.int .i64 b,.bool kept] w fun e W => e = .returned (.bool (!metB f.ss f.ts kept (plOf f (s * 3 + a)) (plOf f (t * 3 + b)))) /\ Below w.heap.size w W:=by
 rw [<- zec hts]
 have f0:=box3 w (.slice sa sl sc) (.slice ta tl tc) (.slice va vl vc) 26
 have hb0:=bel1 w (.cells #[.slice sa sl sc,.slice ta tl tc,.slice va vl vc] 26)
 have c1:=fun (W : World) (h : Below w.heap.size w W) => zed f ho sa ta va fa sl sc tl tc vl vc fc W (hf.keep h) (hM.keep h) s a t b hs ha ht hb kept
 have c2:=fun (W : World) (h : Below w.heap.size w W) => zed f ho sa ta va fa sl sc tl tc vl vc fc W (hf.keep h) (hM.keep h) t b s a ht hb hs ha kept
 generalize claB f.ss f.ts kept (plOf f (s * 3 + a)) (plOf f (t * 3 + b)) = x at c1
 generalize claB f.ss f.ts kept (plOf f (t * 3 + b)) (plOf f (s * 3 + a)) = y at c2
 clear hf hM hts ho hs ha ht hb
 cases x <;> cases y
 all_goals
  go_enter Try.func49,Try.ntmps49
  go_wp2_with (first
   | (go_at_call 26;have hq:=hb1;refine (c2 _ (thn3 hb0 hb1)).mono ?_;rintro e w2 ⟨rfl,hb2⟩)
   | (go_at_call 26;refine (c1 _ hb0).mono ?_;rintro e w1 ⟨rfl,hb1⟩;have f1:=zah hb1 f0))
  go_ret
  exact ⟨rfl,thn3 (thn3 hb0 hb1) hb2⟩
def intC (l : List Int) : List Value:=l.map (.int .i64)
def NowL (w : World) (B g cap n : Nat) (l : List Int) : Prop:=w.ownsRow B 3 1 (.slice (some ⟨g,0,none⟩) n cap) n (intC l)
theorem NowL.keep {w w' : World} {B g cap n : Nat} {l : List Int} (h : NowL w B g cap n l) (hb : Below w.heap.size w w') : NowL w' B g cap n l:=zbr h hb
theorem NowL.cell {w : World} {B g cap n : Nat} {l : List Int} (h : NowL w B g cap n l) {i : Nat} {x : Int} (hi : l[i]? = some x) : w.cell? ⟨g,i,none⟩ = some (.int .i64 x):=by
 have hl:=h.1
 have:=(List.getElem?_eq_some_iff.1 hi).1
 rw [World.ownsRow.cellAt h _ (by simp [intC] at hl;omega)]
 unfold intC;rw [List.getElem?_map,hi];rfl
theorem Try.infoIntK : (Try.prog.info? 3).map (fun i => (i.zero,i.size,i.bytes)) = some (some (.int .i64 0),1,8):=by kernel_rfl
theorem zmb (f : zac) (ho : Ord f) (sa ta va : Option Addr) (sl sc tl tc vl vc : Nat) (w : World) (hf : FleetAt w sa sl sc ta tl tc va vl vc f) :
  Calls Try.prog 24 #[.agg #[.slice sa sl sc,.slice ta tl tc,.slice va vl vc]] w fun e W => ∃ g c,e = .returned (.slice (some ⟨g,0,none⟩) f.vs.length c) /\ NowL W w.heap.size g c f.vs.length ((List.range f.vs.length).map (nowI f)) /\ Below w.heap.size w W:=by
 have f0:=box3 w (.slice sa sl sc) (.slice ta tl tc) (.slice va vl vc) 26
 have hb0:=bel1 w (.cells #[.slice sa sl sc,.slice ta tl tc,.slice va vl vc] 26)
 have h1:=ho.vs1
 have h3:=ho.vs3
 have hv1:=hf.v1
 obtain ⟨v1a,v1b⟩ : vl <= f.vs.length /\ f.vs.length <= vl:=by omega
 obtain ⟨iI,hiI,zI0,zI1,zI2⟩:=info_parts Try.infoIntK
 have HF:= zab hf
 clear hf hv1 ho
 go_enter Try.func24,Try.ntmps24
 go_wp2_with fail
 go_loopw [3,4] (fun vt vi wr => ∃ i : Nat,i <= vl /\ vi = .int .i64 i /\ wr.ownsRow w.heap.size 3 1 vt i (intC ((List.range i).map (nowI f))) /\ Hid (∀ k,vt.ownBlock = some k -> w.heap.size + 1 <= k) /\ Below (w.heap.size + 1) (w.alloc (.cells #[.slice sa sl sc,.slice ta tl tc,.slice va vl vc] 26)) wr) (fun _ i _ => vl - (intOf i).toNat)
 case atStart => exact ⟨0,Nat.zero_le _,rfl,World.ownsRow_nil _ _ _ _,(fun k h => by cases h),Below.refl _ _⟩
 case round =>
  obtain ⟨i,hi,rfl,hown,hlo,hb⟩:=hrel
  rename World => w5
  have hb' : Below (w.alloc (.cells #[.slice sa sl sc,.slice ta tl tc,.slice va vl vc] 26)).heap.size (w.alloc (.cells #[.slice sa sl sc,.slice ta tl tc,.slice va vl vc] 26)) w5:=hb.mono (by simp)
  obtain ⟨q0,q1,q2⟩:=zah hb' f0
  have hbw:=thn3 hb0 hb'
  have z5:=zag q0
  have hx0 := znn i
  have HOWN:= zab hown
  have HB:= zab hb
  by_cases hlt : i < vl
  ·obtain ⟨v,hv⟩ : ∃ v,f.vs[i]? = some v:=⟨f.vs[i]'(by omega),List.getElem?_eq_getElem _⟩
   obtain ⟨bv,ov,ra,rl,rc,rfl,_,c1,_,_,_⟩:=HF.out.v3 i v hv
   have c1:=zaa hbw c1
   have lc:=zag c1
   rw [<- zdv hv] at c1
   have hx1 : (i : Int) < (vl : Int):=by omega
   have hn1 : (List.range (i + 1)).map (nowI f) = (List.range i).map (nowI f) ++ [nowI f i]:=by rw [List.range_succ,List.map_append];rfl
   have HN1:= zab hn1
   generalize nowI f i = x at c1 HN1
   clear hown hb hb' hv hn1
   go_wp2_with (at_builtin;refine wpList_append_lies _ rfl _ _ _ rfl w.heap.size 3 iI _ 1 8 Try.underlying64 hiI zI0 zI1 zI2 rfl (by omega) u3 i _ rfl (HOWN.out.alloc _) ⟨w5.heap.size,0,none⟩ 1 1 [.int .i64 x] rfl rfl (World.news_of_block (heap_alloc_new w5 _)) (by simp [Value.oneCell']) (by omega) (by unfold maxLen;omega) (by omega) (by simp;omega) (w5.heap.size + 1) (by simp) ?_;intro g2 cap2 w8 hown2 hgrow2 hat2 hlt2)
   go_roundw
   case rel =>
    refine ⟨i + 1,by omega,by go_num,by rw [HN1.out,intC,List.map_append];exact hown2,fun k hk => ?_,?_⟩
    ·have e : g2 = k:=by simpa [Value.ownBlock] using hk
     subst e
     rcases hat2 with h | h
     ·exact hlo.out g2 h
     ·omega
    ·exact Below.grown (HB.out.alloc (by omega) _) hgrow2 (by simp;omega) (fun k hk => hlo.out k hk)
   case measure => simp [intOf];omega
  ·obtain rfl : vl = i:=by omega
   have hvv : f.vs.length = vl:=by omega
   obtain ⟨g,c,hu,hN⟩ : ∃ g c,u3 = .slice (some ⟨g,0,none⟩) f.vs.length c /\ NowL w5 w.heap.size g c f.vs.length ((List.range f.vs.length).map (nowI f)):=by
    have h:=hown
    rw [<- hvv] at h
    obtain ⟨hl,⟨_,h0⟩ | ⟨g,cap,cur,hu,hr⟩⟩:=h
    ·omega
    ·exact ⟨g,cap,hu,hl,.inr ⟨g,cap,cur,rfl,hr⟩⟩
   subst hu
   have HN:= zab hN
   clear hN hown hb hvv HOWN hlo
   go_wp2_with fail
   go_ret
   exact ⟨g,c,rfl,HN.out,hbw⟩
def cfgL (f : zac) (ms : List (Int × Int)) (j : Nat) : List Int:=(List.range f.vs.length).map fun s => hasI (nowI f s) ms s j
theorem zck {f : zac} {ms : List (Int × Int)} {j s : Nat} (hs : s < f.vs.length) : (cfgL f ms j)[s]? = some (hasI (nowI f s) ms s j):=by
 unfold cfgL;rw [List.getElem?_map,List.getElem?_range hs];rfl
theorem zko {f : zac} {ms : List (Int × Int)} {j x y : Nat} (hx : x < f.vs.length) (hm : mvAt ms j = ((x : Int),(y : Int))) : cfgL f ms (j + 1) = (cfgL f ms j).set x (y : Int):=by
 refine List.ext_getElem? fun s => ?_
 by_cases hs : s < f.vs.length
 ·rw [zck hs,zfl,hm]
  by_cases he : x = s
  ·subst he
   rw [List.getElem?_set_self (by unfold cfgL;simpa using hs),if_pos rfl]
  ·rw [List.getElem?_set_ne he,zck hs,if_neg (by simp;omega)]
 ·rw [List.getElem?_eq_none (by unfold cfgL;simp;omega),List.getElem?_eq_none (by unfold cfgL;simp;omega)]
end
section
open Go.RowKit
theorem zbq (w : World) (o : Obj) : (w.alloc o).heap[w.heap.size]? = some o:=by show (w.heap.push o)[w.heap.size]? = some o;simp
theorem zfz (n : Nat) (hn : 0 < n) (hn2 : n <= 9) (w : World) : Calls Try.prog 30 #[.int .i64 0,.int .i64 n] w fun e W => e = .returned (.int .i64 0) /\ Below w.heap.size w W:=by
 go_enter Try.func30,Try.ntmps30
 go_wp2_with fail
 go_ret
 exact ⟨rfl,Below.refl _ _⟩
theorem zer (a b : Int) (w : World) : Calls Try.prog 33 #[.int .i64 a,.int .i64 b] w fun e W => ∃ g,e = .returned (.agg #[.slice (some ⟨g,0,none⟩) 1 1]) /\ RowIs W g 108 [.int .i64 0,.int .i64 a,.int .i64 b] /\ Below w.heap.size w W:=by
 go_enter Try.func33,Try.ntmps33
 go_wp2_with fail
 refine bodyPost_ret (v:=.agg #[.slice (some ⟨w.heap.size + 1,0,none⟩) 1 1]) (by simp [results,Try.results33,go_sem]) rfl ?_
 refine ⟨w.heap.size + 1,rfl,?_,thn3 (bel1 _ _) (bel1 _ _)⟩
 have:=zbq (w.alloc (.cells #[.slice (some ⟨w.heap.size + 1,0,none⟩) 1 1] 79)) (.cells #[.int .i64 0,.int .i64 a,.int .i64 b] 108)
 rw [show (w.alloc (.cells #[.slice (some ⟨w.heap.size + 1,0,none⟩) 1 1] 79)).heap.size = w.heap.size + 1 by simp] at this
 exact this
theorem zqa (sz : Int) (w : World) : Calls Try.prog 31 #[.int .i64 sz] w fun e W => ∃ g p1 p2,e = .returned (.agg #[.int .i64 sz,.int .i64 0,.int .i64 1,.slice (some ⟨g,0,none⟩) 2 2]) /\ RowIs W g 79 [.slice (some ⟨p1,0,none⟩) 1 1,.slice (some ⟨p2,0,none⟩) 1 1] /\ RowIs W p1 108 [.int .i64 0,.int .i64 0,.int .i64 (-1)] /\ RowIs W p2 108 [.int .i64 0,.int .i64 1,.int .i64 (-1)] /\ Below w.heap.size w W:=by
 have c1:=fun W => zer 0 (-1) W
 have c2:=fun W => zer 1 (-1) W
 have z0 : RowIs (w.alloc (.cells #[.int .i64 0,.int .i64 0,.int .i64 0,.slice none 0 0] 60)) w.heap.size 60 [.int .i64 0,.int .i64 0,.int .i64 0,.slice none 0 0]:=zbq _ _
 have Z0:= zab z0
 clear z0
 go_enter Try.func31,Try.ntmps31
 go_wp2_with (first
  | (go_at_call 33;have hq:=hb1;refine (c2 _).mono ?_;rintro e w2 ⟨p2,rfl,hr2,hb2⟩;have HR1:=(zab (hr1.out.keep hb2));have HR2:= zab hr2;have Z2:=(zab (((Z0.out.keep hb1).keep hb2).keep (bel1 w2 (.cells #[.slice (some ⟨p1,0,none⟩) 1 1,.slice (some ⟨p2,0,none⟩) 1 1] 79))));have y0:=Z2.out.cell (j:=0) rfl;have y1:=Z2.out.cell (j:=1) rfl;have y2:=Z2.out.cell (j:=2) rfl;have y3:=Z2.out.cell (j:=3) rfl;have x0:=Z2.out.frozen 0;have x1:=Z2.out.frozen 1;have x2:=Z2.out.frozen 2;have x3:=Z2.out.frozen 3)
  | (go_at_call 33;refine (c1 _).mono ?_;rintro e w1 ⟨p1,rfl,hr1,hb1⟩;have hr1:=(zab hr1)))
 have Z3:=(((Z2.out.set 0 (.int .i64 sz)).set 1 (.int .i64 0)).set 2 (.int .i64 1)).set 3 (.slice (some ⟨w2.heap.size,0,none⟩) 2 2)
 have k0:=Z3.cell (j:=0) rfl
 have k1:=Z3.cell (j:=1) rfl
 have k2:=Z3.cell (j:=2) rfl
 have k3:=Z3.cell (j:=3) rfl
 have hB2:=thn3 (thn3 (thn3 (bel1 w _) hb1) hb2) (bel1 w2 (.cells #[.slice (some ⟨p1,0,none⟩) 1 1,.slice (some ⟨p2,0,none⟩) 1 1] 79))
 have lz:=((Z0.out.keep hb1).keep hb2).lt
 have n1:=(HR1.out.keep (bel1 w2 (.cells #[.slice (some ⟨p1,0,none⟩) 1 1,.slice (some ⟨p2,0,none⟩) 1 1] 79))).ne Z2.out (by decide)
 have n2:=(HR2.out.keep (bel1 w2 (.cells #[.slice (some ⟨p1,0,none⟩) 1 1,.slice (some ⟨p2,0,none⟩) 1 1] 79))).ne Z2.out (by decide)
 refine bodyPost_ret (v:=.agg #[.int .i64 sz,.int .i64 0,.int .i64 1,.slice (some ⟨w2.heap.size,0,none⟩) 2 2]) (by simp [results,Try.results31,go_sem,k0,k1,k2,k3]) rfl ?_
 refine ⟨w2.heap.size,p1,p2,rfl,?_,?_,?_,(((hB2.setCell (Nat.le_refl _) _).setCell (Nat.le_refl _) _).setCell (Nat.le_refl _) _).setCell (Nat.le_refl _) _⟩
 ·have hne : (⟨w.heap.size,0,none⟩ : Addr).block ≠ w2.heap.size:=by show w.heap.size ≠ _;omega
  exact ((((show RowIs (w2.alloc (.cells #[.slice (some ⟨p1,0,none⟩) 1 1,.slice (some ⟨p2,0,none⟩) 1 1] 79)) w2.heap.size 79 _ from zbq _ _).setOther (by exact hne) _).setOther (by exact hne) _).setOther (by exact hne) _).setOther (by exact hne) _
 ·exact ((((HR1.out.keep (bel1 w2 (.cells #[.slice (some ⟨p1,0,none⟩) 1 1,.slice (some ⟨p2,0,none⟩) 1 1] 79))).setOther (by exact n1.symm) _).setOther (by exact n1.symm) _).setOther (by exact n1.symm) _).setOther (by exact n1.symm) _
 ·exact ((((HR2.out.keep (bel1 w2 (.cells #[.slice (some ⟨p1,0,none⟩) 1 1,.slice (some ⟨p2,0,none⟩) 1 1] 79))).setOther (by exact n2.symm) _).setOther (by exact n2.symm) _).setOther (by exact n2.symm) _).setOther (by exact n2.symm) _
theorem zny (sz : Int) (w : World) : Calls Try.prog 32 #[.int .i64 sz] w fun e W => ∃ g p1 p2,e = .returned (.agg #[.int .i64 sz,.int .i64 0,.int .i64 1,.slice (some ⟨g,0,none⟩) 2 2]) /\ RowIs W g 79 [.slice (some ⟨p1,0,none⟩) 1 1,.slice (some ⟨p2,0,none⟩) 1 1] /\ RowIs W p1 108 [.int .i64 0,.int .i64 (-1),.int .i64 0] /\ RowIs W p2 108 [.int .i64 0,.int .i64 (-1),.int .i64 1] /\ Below w.heap.size w W:=by
 have c1:=fun W => zer (-1) 0 W
 have c2:=fun W => zer (-1) 1 W
 have z0 : RowIs (w.alloc (.cells #[.int .i64 0,.int .i64 0,.int .i64 0,.slice none 0 0] 60)) w.heap.size 60 [.int .i64 0,.int .i64 0,.int .i64 0,.slice none 0 0]:=zbq _ _
 have Z0:= zab z0
 clear z0
 go_enter Try.func32,Try.ntmps32
 go_wp2_with (first
  | (go_at_call 33;have hq:=hb1;refine (c2 _).mono ?_;rintro e w2 ⟨p2,rfl,hr2,hb2⟩;have HR1:=(zab (hr1.out.keep hb2));have HR2:= zab hr2;have Z2:=(zab (((Z0.out.keep hb1).keep hb2).keep (bel1 w2 (.cells #[.slice (some ⟨p1,0,none⟩) 1 1,.slice (some ⟨p2,0,none⟩) 1 1] 79))));have y0:=Z2.out.cell (j:=0) rfl;have y1:=Z2.out.cell (j:=1) rfl;have y2:=Z2.out.cell (j:=2) rfl;have y3:=Z2.out.cell (j:=3) rfl;have x0:=Z2.out.frozen 0;have x1:=Z2.out.frozen 1;have x2:=Z2.out.frozen 2;have x3:=Z2.out.frozen 3)
  | (go_at_call 33;refine (c1 _).mono ?_;rintro e w1 ⟨p1,rfl,hr1,hb1⟩;have hr1:=(zab hr1)))
 have Z3:=(((Z2.out.set 0 (.int .i64 sz)).set 1 (.int .i64 0)).set 2 (.int .i64 1)).set 3 (.slice (some ⟨w2.heap.size,0,none⟩) 2 2)
 have k0:=Z3.cell (j:=0) rfl
 have k1:=Z3.cell (j:=1) rfl
 have k2:=Z3.cell (j:=2) rfl
 have k3:=Z3.cell (j:=3) rfl
 have hB2:=thn3 (thn3 (thn3 (bel1 w _) hb1) hb2) (bel1 w2 (.cells #[.slice (some ⟨p1,0,none⟩) 1 1,.slice (some ⟨p2,0,none⟩) 1 1] 79))
 have lz:=((Z0.out.keep hb1).keep hb2).lt
 have n1:=(HR1.out.keep (bel1 w2 (.cells #[.slice (some ⟨p1,0,none⟩) 1 1,.slice (some ⟨p2,0,none⟩) 1 1] 79))).ne Z2.out (by decide)
 have n2:=(HR2.out.keep (bel1 w2 (.cells #[.slice (some ⟨p1,0,none⟩) 1 1,.slice (some ⟨p2,0,none⟩) 1 1] 79))).ne Z2.out (by decide)
 refine bodyPost_ret (v:=.agg #[.int .i64 sz,.int .i64 0,.int .i64 1,.slice (some ⟨w2.heap.size,0,none⟩) 2 2]) (by simp [results,Try.results32,go_sem,k0,k1,k2,k3]) rfl ?_
 refine ⟨w2.heap.size,p1,p2,rfl,?_,?_,?_,(((hB2.setCell (Nat.le_refl _) _).setCell (Nat.le_refl _) _).setCell (Nat.le_refl _) _).setCell (Nat.le_refl _) _⟩
 ·have hne : (⟨w.heap.size,0,none⟩ : Addr).block ≠ w2.heap.size:=by show w.heap.size ≠ _;omega
  exact ((((show RowIs (w2.alloc (.cells #[.slice (some ⟨p1,0,none⟩) 1 1,.slice (some ⟨p2,0,none⟩) 1 1] 79)) w2.heap.size 79 _ from zbq _ _).setOther (by exact hne) _).setOther (by exact hne) _).setOther (by exact hne) _).setOther (by exact hne) _
 ·exact ((((HR1.out.keep (bel1 w2 (.cells #[.slice (some ⟨p1,0,none⟩) 1 1,.slice (some ⟨p2,0,none⟩) 1 1] 79))).setOther (by exact n1.symm) _).setOther (by exact n1.symm) _).setOther (by exact n1.symm) _).setOther (by exact n1.symm) _
 ·exact ((((HR2.out.keep (bel1 w2 (.cells #[.slice (some ⟨p1,0,none⟩) 1 1,.slice (some ⟨p2,0,none⟩) 1 1] 79))).setOther (by exact n2.symm) _).setOther (by exact n2.symm) _).setOther (by exact n2.symm) _).setOther (by exact n2.symm) _
theorem zi2 {W : World} {g p1 p2 : Nat} {a1 b1 a2 b2 : Int} (h : RowIs W g 79 [.slice (some ⟨p1,0,none⟩) 1 1,.slice (some ⟨p2,0,none⟩) 1 1]) (h1 : RowIs W p1 108 [.int .i64 0,.int .i64 a1,.int .i64 b1]) (h2 : RowIs W p2 108 [.int .i64 0,.int .i64 a2,.int .i64 b2]) : RelSl PinSl W (some ⟨g,0,none⟩) 2 2 [[⟨0,a1,b1⟩],[⟨0,a2,b2⟩]]:=by
 have key : ∀ {p : Nat} {a b : Int},RowIs W p 108 [.int .i64 0,.int .i64 a,.int .i64 b] -> PinSl W (some ⟨p,0,none⟩) 1 1 [⟨0,a,b⟩]:=fun h => by
  refine ⟨rfl,by simp,by decide,by decide,fun i q hi => ?_⟩
  have : i = 0:=by have:=(List.getElem?_eq_some_iff.1 hi).1;simpa using this
  subst this
  simp at hi;subst hi
  exact ⟨_,0,rfl,h.cell (j:=0) rfl,h.cell (j:=1) rfl,h.cell (j:=2) rfl⟩
 refine ⟨rfl,by simp,by decide,by decide,fun i ps hi => ?_⟩
 have hl:=(List.getElem?_eq_some_iff.1 hi).1
 have : i = 0 \/ i = 1:=by simp at hl;omega
 rcases this with rfl | rfl
 ·simp at hi;subst hi
  exact ⟨g,0,_,_,_,rfl,h.cell (j:=0) rfl,key h1⟩
 ·simp at hi;subst hi
  exact ⟨g,0,_,_,_,rfl,h.cell (j:=1) rfl,key h2⟩
end
end Go.Proofs.Ytkkekopomiehlab
