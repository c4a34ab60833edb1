import Derived.Test.YtkkekopomiehlaaGreatCSp2
set_option linter.unusedVariables false
set_option linter.unusedSimpArgs false
set_option maxHeartbeats 40000000
namespace Go.Proofs.YtkkekopomiehlaaGreat
section
set_option maxRecDepth 8000
open Go.RowKit
open Go.Lib (below_setCells)
def zan (g n cap : Nat) (wn : List Bool) : List Value:=.slice (some ⟨g,0,none⟩) n cap :: wn.map Value.bool
structure Xp (w0 wr : World) (g cap : Nat) (L : List (TS SiD)) : Prop where
 own : wr.ownsRow w0.heap.size 123 20 (.slice (some ⟨g,0,none⟩) L.length cap) L.length (stsC L)
 bel : Below w0.heap.size w0 wr
theorem Xp.keep {w0 wr wr' : World} {g cap : Nat} {L : List (TS SiD)} (h : Xp w0 wr g cap L) (hb : Below wr.heap.size wr wr') : Xp w0 wr' g cap L:=⟨zbc h.own hb,thn3 h.bel hb⟩
theorem yabg {P : Program} {ops : Array Oper} {l : List Oper} {a : Act} {w : World} {Q : Exit -> Act -> World -> Prop} (R : World -> Prop) (hR : R w) (h : ∀ W,R W -> wpList P ops Q l a W) : wpList P ops Q l a w:=h w hR
theorem zda {w : World} {cs xs : Array Value} {t : TypeId} {n : Nat} (hn : xs.size = n) (hc : cs.size = n) : (w.alloc (.cells cs t)).there w.heap.size 0 xs.size:=by
 rw [hn,<- hc];exact zdb (zay w _)
theorem zx0 {w w' : World} {row : Option Nat} {b o : Nat} {cs : List Value} (h : w.rangeAt b o cs) (hg : w.grownBy w' row) (hne : some b ≠ row) : w'.rangeAt b o cs:=fun j v hj => hg.cell (h j v hj) hne
theorem zzs {t : TS SiD} {u : Value} (hu : u ∈ stC t) : u.oneCell' = true:=by
 have:=Array.all_eq_true_iff_forall_mem.1 (ziw t) u (by simpa using hu)
 exact this
theorem zin {w : World} {b o : Nat} {cs : List Value} (h : w.rangeAt b o cs) (hl : 0 < cs.length) : b < w.heap.size:=zaf (h 0 _ (List.getElem?_eq_getElem hl))
theorem Tryz.infoStp2 : (Tryz.prog.info? 123).map (fun i => (i.zero,i.size,i.bytes)) = some (some (.agg #[.bool false,.bool false,.bool false,.bool false,.bool false,.bool false,.bool false,.bool false,.bool false,.bool false,.bool false,.bool false,.bool false,.bool false,.bool false,.bool false,.bool false,.bool false,.int .i64 0,.int .i64 0]),20,40):=by kernel_rfl
theorem Tryz.infoTour : (Tryz.prog.info? 71).map (·.size) = some 10:=by kernel_rfl
theorem zej {c : ChD} (hc : c.ok) {k : Nat} (h : k <= (touS c k).length) : (touS c k).length <= 262144:=zq1 (zi6 (nxS c) (begD c) k h).1 (ze7 hc k)
theorem yaab {c : ChD} (hc : c.ok) {k p : Nat} {a : TS SiD} (h : k <= (touS c k).length) (ha : (touS c k)[k]? = some a) (hp : p <= 9) : (tin (nxS c) k a.now p (touS c k)).length <= 262144 :=
 zq1 ((zi6 (nxS c) (begD c) k h).1.tin ha p hp) (zrf (ze7 hc k) (ze7 hc k a (List.mem_of_getElem? ha)) p)
theorem zri {c : ChD} {k : Nat} {a : TS SiD} (ha : (touS c k)[k]? = some a) : touS c (k + 1) = tin (nxS c) k a.now 9 (touS c k):=by
 unfold touS at ha ⊢;rw [tou,ha]
theorem yaac {c : ChD} {k p : Nat} {s : SiD} {L : List (TS SiD)} : tin (nxS c) k s (p + 1) L = if mvB c s p = true then (if sfB c s p = true then tins k (tin (nxS c) k s p L) p (aft s p) else tin (nxS c) k s p L) else tin (nxS c) k s p L:=by
 rw [tin];unfold nxS
 cases mvB c s p with
 | false => rfl
 | true => cases sfB c s p <;> rfl
theorem zsd (c : ChD) (hc : c.ok) (w : World) :
  Calls Tryz.prog 34 #[.agg c.cells.toArray] w fun e W => ∃ g cap K,e = .returned (.agg (zan g K cap c.wnt).toArray) /\ (touS c K).length = K /\ W.rangeAt g 0 (stsC (touS c K)) /\ Below w.heap.size w W:=by
 have ic : (Tryz.prog.info? 52).map (·.size) = some c.cells.length:=by rw [hc.len];exact Tryz.infoCht
 have hbeg:=fun w => zs4 c hc w
 have h0:=zhm hc
 obtain ⟨i0,hi0,hz0,hzz1,hzz2⟩:=info_parts Tryz.infoStp2
 have e1:=zta h0
 have e2:=fun W => zmg h0 0 0 W
 have r0 : ∀ o,((w.alloc (.cells c.cells.toArray 52)).alloc o).rangeAt w.heap.size 0 c.cells:=fun o => zag (belS _ _) (zbr (zay w (.cells c.cells.toArray 52)))
 have hR0 : ∀ cs : Array Value,cs.size = 10 -> (fun W : World => W.rangeAt w.heap.size 0 c.cells /\ W.there (w.heap.size + 1) 0 10 /\ W.heap.size = w.heap.size + 2 /\ Below w.heap.size w W) ((w.alloc (.cells c.cells.toArray 52)).alloc (.cells cs 71)):=fun cs hcs => by
  refine ⟨r0 _,?_,by simp,(belS w _).alloc (by simp) _⟩
  have:=zdb (zay (w.alloc (.cells c.cells.toArray 52)) (.cells cs 71))
  rw [hcs,za2] at this;exact this
 have HC:= zab hc
 have H0:= zab h0
 have HR0:= zab hR0
 have h1c:=ziw ⟨begD c,0,0⟩
 clear hc h0 hR0
 go_enter Tryz.func34,Tryz.ntmps34
 go_wp2_with (first
  | (go_at_call 48;refine (hbeg _).mono ?_;rintro e w1 ⟨rfl,hb1⟩)
  | (refine wpList_load_mid rfl 52 _ rfl w.heap.size 0 rfl c.cells _ (r0 _) Tryz.underlying52 rfl ic ?_;refine yabg (fun W => W.rangeAt w.heap.size 0 c.cells /\ W.there (w.heap.size + 1) 0 10 /\ W.heap.size = w.heap.size + 2 /\ Below w.heap.size w W) (HR0.out _ (by rfl)) ?_;rintro w0 ⟨rc0,rt0,hs0,hB0⟩;simp only [Act.put,List.setIfInBounds_toArray,List.set_cons_zero,List.set_cons_succ,List.getElem_toArray,List.getElem_cons_zero,List.getElem_cons_succ])
  | (have hq:=hb1;refine zl5 rfl 123 _ rfl _ (by rw [Array.toList_map];rfl) _ e1 ?_;simp only [Act.put,List.setIfInBounds_toArray,List.set_cons_zero,List.set_cons_succ,List.getElem_toArray,List.getElem_cons_zero,List.getElem_cons_succ])
  | (have hq:=hb1;refine zr6 rfl 69 1 _ rfl _ (by rw [Array.toList_map];rfl) _ _ (e2 _) ?_;simp only [Act.put,List.setIfInBounds_toArray,List.set_cons_zero,List.set_cons_succ,List.getElem_toArray,List.getElem_cons_zero,List.getElem_cons_succ]))
 have hX0 : Xp w0 (w1.alloc (.cells (stC ⟨begD c,0,0⟩).toArray 123)) w1.heap.size 1 (touS c 0):=by
  refine ⟨?_,hb1.alloc hb1.size _⟩
  have h20:=zdq (t:=⟨begD c,0,0⟩) H0.out
  have:=World.ownsRow_lit (base:=w0.heap.size) (e:=123) (size:=20) w1 (stC ⟨begD c,0,0⟩).toArray 1 hb1.size (by unfold maxLen;omega) (by simpa using h20)
  have e3 : stsC (touS c 0) = (stC ⟨begD c,0,0⟩):=by show stC _ ++ [] = _;rw [List.append_nil]
  rw [e3];exact this
 have HX0:= zab hX0
 have HS0:= zab hs0
 clear hX0 e1 e2 hs0
 go_loopw [3,4] (fun vs vk wr => ∃ (k g cap : Nat),vk = .int .i64 k /\ vs = .slice (some ⟨g,0,none⟩) (touS c k).length cap /\ k <= (touS c k).length /\ Hid (Xp w0 wr g cap (touS c k))) (fun _ vk _ => 262145 - (intOf vk).toNat)
 case atStart => exact ⟨0,w1.heap.size,1,rfl,rfl,Nat.zero_le _,HX0⟩
 case round =>
  clear HX0 hb1
  obtain ⟨k,g,cap,rfl,rfl,hk,HX⟩:=hrel
  rename World => w5
  have hlen:=zej HC.out hk
  have hx0 := znn k
  obtain ⟨hg1,hg2⟩:=HX.out.own.lt g rfl
  have z5:=HX.out.bel.size
  by_cases hlt : k < (touS c k).length
  ·obtain ⟨a,ha⟩ : ∃ a,(touS c k)[k]? = some a:=⟨_,List.getElem?_eq_getElem hlt⟩
   have hao:=ze7 HC.out k a (List.mem_of_getElem? ha)
   obtain ⟨a1,a2,a3⟩:=zit hao
   have ra:=zc4 (k:=0) (ds:=a.now.cells) (ziy (zkz HX.out.own) (ze7 HC.out k) ha) (fun j v hj => by
    rw [Nat.zero_add];unfold stC;rw [List.getElem?_append_left (List.getElem?_eq_some_iff.1 hj).1];exact hj)
   rw [Nat.add_zero] at ra
   have ha18 : a.now.cells.toArray.size = 18:=by simpa using hao.len
   have hR6 : ∀ cs : Array Value,cs.size = 18 -> (fun W : World => W.rangeAt w5.heap.size 0 a.now.cells /\ Below w5.heap.size w5 W) ((w5.alloc (.cells cs 106)).setCells w5.heap.size 0 a.now.cells):=fun cs hcs =>
    ⟨World.rangeAt_setCells_same _ w5.heap.size 0 a.now.cells (by simpa using zda (xs:=a.now.cells.toArray) (t:=106) ha18 hcs),below_setCells _ (Nat.le_refl _) _ _ (belS _ _)⟩
   have HR6:= zab hR6
   have hx1 : (k : Int) < ((touS c k).length : Int):=by omega
   have HA:= zab ha
   have HAO:= zab hao
   clear hR6 ha hao
   go_wp2_with (first
    | (refine wpList_load_mid (w:=w5) rfl 106 _ rfl g (k * 20) rfl a.now.cells _ ra Tryz.underlying106 rfl a1 ?_;simp only [Act.put,List.setIfInBounds_toArray,List.set_cons_zero,List.set_cons_succ,List.getElem_toArray,List.getElem_cons_zero,List.getElem_cons_succ])
    | (refine zcq rfl 106 _ _ rfl w5.heap.size 0 a.now.cells.toArray rfl rfl (zda ha18 (by rfl)) a2 a3 (fun W => W.rangeAt w5.heap.size 0 a.now.cells /\ Below w5.heap.size w5 W) (HR6.out _ (by rfl)) ?_;rintro w6 ⟨rn6,hb6⟩;simp only [Act.put,List.setIfInBounds_toArray,List.set_cons_zero,List.set_cons_succ,List.getElem_toArray,List.getElem_cons_zero,List.getElem_cons_succ]))
   have hs6:=zin rn6 (by rw [HAO.out.len];omega)
   have HX6:=(zab (HX.out.keep hb6))
   clear ra HX
   go_loopw [3,6] (fun vs vp wr => ∃ (p g cap : Nat),p <= 9 /\ vp = .int .i64 p /\ vs = .slice (some ⟨g,0,none⟩) (tin (nxS c) k a.now p (touS c k)).length cap /\ Hid (Xp w0 wr g cap (tin (nxS c) k a.now p (touS c k))) /\ wr.rangeAt w5.heap.size 0 a.now.cells /\ g ≠ w5.heap.size /\ w5.heap.size < wr.heap.size) (fun _ vp _ => 9 - (intOf vp).toNat)
   case atStart => exact ⟨0,g,cap,Nat.zero_le _,rfl,rfl,HX6,rn6,by omega,hs6⟩
   case round =>
    clear HX6 rn6 hs6 hb6 hg1 hg2
    obtain ⟨p,g,cap,hp,rfl,rfl,HX,rn7,hgn,hs7⟩:=hrel
    rename World => w7
    have hMl:=yaab HC.out hk HA.out hp
    have hMo:=zrf (c:=c) (k:=k) (ze7 HC.out k) HAO.out p
    have rc7:=zag HX.out.bel rc0
    have hp0 := znn p
    have hT:=yaac (c:=c) (k:=k) (p:=p) (s:=a.now) (L:=touS c k)
    by_cases hlt2 : p < 9
    ·have hmv1:=fun W => zu0 c a.now p HC.out HAO.out W
     have hsf1:=fun W => zu3 c a.now p HC.out HAO.out W
     have haf:=fun W => zsr a.now p HAO.out W
     have hyo:=zhh HAO.out p
     obtain ⟨g1,g2⟩:=HX.out.own.lt g rfl
     have hx9 : (p : Int) < 9:=by omega
     generalize tin (nxS c) k a.now p (touS c k) = M at HX hMl hMo hT ⊢
     generalize aft a.now p = y at haf hyo hT
     have hrc:=fun (W : World) (h : Below w7.heap.size w7 W) => zu2 M hMo y hyo g cap W hMl (zag h (zkz HX.out.own))
     obtain ⟨y1,y2,y3⟩:=zit hyo
     have hy18 : y.cells.toArray.size = 18:=by simpa using hyo.len
     have hN : ∀ {W : World} {cs : Array Value},Below w7.heap.size w7 W -> cs.size = 18 -> (fun V : World => V.rangeAt W.heap.size 0 y.cells /\ Below w7.heap.size w7 V) ((W.alloc (.cells cs 106)).setCells W.heap.size 0 y.cells):=fun {W cs} h hcs =>
      ⟨World.rangeAt_setCells_same _ W.heap.size 0 y.cells (by simpa using zda (xs:=y.cells.toArray) (t:=106) hy18 hcs),below_setCells W.heap.size h.size _ _ (thn3 h (belS _ _))⟩
     have HN : Hid (∀ {W : World} {cs : Array Value},Below w7.heap.size w7 W -> cs.size = 18 -> (fun V : World => V.rangeAt W.heap.size 0 y.cells /\ Below w7.heap.size w7 V) ((W.alloc (.cells cs 106)).setCells W.heap.size 0 y.cells)):=hN
     have eb1:=zs9 hyo k p
     have eb2:=fun W => zmg hyo k p W
     have HYL:=(zab (show (stC ⟨y,k,p⟩).length = 1 * 20 by rw [zdq hyo]))
     have HY1:=(zab (fun (u : Value) (hu : u ∈ stC ⟨y,k,p⟩) => zzs hu))
     have hti : tins k M p y = if (M.any fun t => zg3 t.now y) = true then M else M ++ [⟨y,k,p⟩]:=rfl
     generalize mvB c a.now p = x at hmv1 hT
     generalize sfB c a.now p = z at hsf1 hT
     generalize (M.any fun t => zg3 t.now y) = v at hrc hti
     clear hN hlt hlen hx0 hx1 hk hMo HA ha18 a2 a3
     cases x with
     | false =>
      have HT : Hid (tin (nxS c) k a.now (p + 1) (touS c k) = M):=by show _ = _;rw [hT];rfl
      clear hT hti hrc hsf1 haf eb1 eb2
      go_wp2_with (first
       | (go_at_call 49;refine (hmv1 _).mono ?_;rintro e w8 ⟨rfl,hb8⟩;have rc8:=zag hb8 rc7;have rn8:=zag hb8 rn7)
       | (refine wpList_load_mid (w:=w7) rfl 52 _ rfl w.heap.size 0 rfl c.cells _ rc7 Tryz.underlying52 rfl ic ?_;simp only [Act.put,List.setIfInBounds_toArray,List.set_cons_zero,List.set_cons_succ,List.getElem_toArray,List.getElem_cons_zero,List.getElem_cons_succ])
       | (refine wpList_load_mid (w:=w7) rfl 106 _ rfl w5.heap.size 0 rfl a.now.cells _ rn7 Tryz.underlying106 rfl a1 ?_;simp only [Act.put,List.setIfInBounds_toArray,List.set_cons_zero,List.set_cons_succ,List.getElem_toArray,List.getElem_cons_zero,List.getElem_cons_succ]))
      go_roundw
      case rel => exact ⟨p + 1,g,cap,by omega,by go_num,by rw [HT.out],by rw [HT.out];exact HX.out.keep (hb8),zag (hb8) rn7,hgn,by have:=(hb8).size;omega⟩
      case measure => simp [intOf];omega
     | true =>
      cases z with
      | false =>
       have HT : Hid (tin (nxS c) k a.now (p + 1) (touS c k) = M):=by show _ = _;rw [hT];rfl
       clear hT hti hrc haf eb1 eb2
       go_wp2_with (first
        | (go_at_call 52;refine (hsf1 _).mono ?_;rintro e w9 ⟨rfl,hb9⟩;have rn9:=zag hb9 rn8)
        | (have hq:=hb8;refine zdi (w:=w8) (by rfl) 52 _ rfl w.heap.size 0 rfl c.cells _ rc8 Tryz.underlying52 rfl ic ?_;simp only [Act.put,List.setIfInBounds_toArray,List.set_cons_zero,List.set_cons_succ,List.getElem_toArray,List.getElem_cons_zero,List.getElem_cons_succ])
        | (have hq:=hb8;refine zdi (w:=w8) (by rfl) 106 _ rfl w5.heap.size 0 rfl a.now.cells _ rn8 Tryz.underlying106 rfl a1 ?_;simp only [Act.put,List.setIfInBounds_toArray,List.set_cons_zero,List.set_cons_succ,List.getElem_toArray,List.getElem_cons_zero,List.getElem_cons_succ])
        | (go_at_call 49;refine (hmv1 _).mono ?_;rintro e w8 ⟨rfl,hb8⟩;have rc8:=zag hb8 rc7;have rn8:=zag hb8 rn7)
        | (refine wpList_load_mid (w:=w7) rfl 52 _ rfl w.heap.size 0 rfl c.cells _ rc7 Tryz.underlying52 rfl ic ?_;simp only [Act.put,List.setIfInBounds_toArray,List.set_cons_zero,List.set_cons_succ,List.getElem_toArray,List.getElem_cons_zero,List.getElem_cons_succ])
        | (refine wpList_load_mid (w:=w7) rfl 106 _ rfl w5.heap.size 0 rfl a.now.cells _ rn7 Tryz.underlying106 rfl a1 ?_;simp only [Act.put,List.setIfInBounds_toArray,List.set_cons_zero,List.set_cons_succ,List.getElem_toArray,List.getElem_cons_zero,List.getElem_cons_succ]))
       go_roundw
       case rel => exact ⟨p + 1,g,cap,by omega,by go_num,by rw [HT.out],by rw [HT.out];exact HX.out.keep (thn3 hb8 hb9),zag (thn3 hb8 hb9) rn7,hgn,by have:=(thn3 hb8 hb9).size;omega⟩
       case measure => simp [intOf];omega
      | true =>
       cases v with
       | true =>
        have HT : Hid (tin (nxS c) k a.now (p + 1) (touS c k) = M):=by show _ = _;rw [hT,hti];rfl
        clear hT hti eb1 eb2
        go_wp2_with (first
         | (go_at_call 60;refine (hrc _ g11).mono ?_;rintro e w12 ⟨rfl,hb12⟩;have q12:=zag hb12 q11;have g12:=thn3 g11 hb12)
         | (have hq:=q11;refine wpList_load_mid (w:=w11) rfl 106 _ rfl w10.heap.size 0 rfl y.cells _ q11 Tryz.underlying106 rfl y1 ?_;simp only [Act.put,List.setIfInBounds_toArray,List.set_cons_zero,List.set_cons_succ,List.getElem_toArray,List.getElem_cons_zero,List.getElem_cons_succ])
         | (have hq:=hb10;refine zcq rfl 106 _ _ rfl w10.heap.size 0 y.cells.toArray rfl rfl (zda hy18 (by rfl)) y2 y3 (fun W => W.rangeAt w10.heap.size 0 y.cells /\ Below w7.heap.size w7 W) (HN.out (thn3 (thn3 hb8 hb9) hb10) (by rfl)) ?_;rintro w11 ⟨q11,g11⟩)
         | (go_at_call 50;refine (haf _).mono ?_;rintro e w10 ⟨rfl,hb10⟩)
         | (have hq:=hb9;refine wpList_load_mid (w:=w9) rfl 106 _ rfl w5.heap.size 0 rfl a.now.cells _ rn9 Tryz.underlying106 rfl a1 ?_;simp only [Act.put,List.setIfInBounds_toArray,List.set_cons_zero,List.set_cons_succ,List.getElem_toArray,List.getElem_cons_zero,List.getElem_cons_succ])
         | (go_at_call 52;refine (hsf1 _).mono ?_;rintro e w9 ⟨rfl,hb9⟩;have rn9:=zag hb9 rn8)
         | (have hq:=hb8;refine zdi (w:=w8) (by rfl) 52 _ rfl w.heap.size 0 rfl c.cells _ rc8 Tryz.underlying52 rfl ic ?_;simp only [Act.put,List.setIfInBounds_toArray,List.set_cons_zero,List.set_cons_succ,List.getElem_toArray,List.getElem_cons_zero,List.getElem_cons_succ])
         | (have hq:=hb8;refine zdi (w:=w8) (by rfl) 106 _ rfl w5.heap.size 0 rfl a.now.cells _ rn8 Tryz.underlying106 rfl a1 ?_;simp only [Act.put,List.setIfInBounds_toArray,List.set_cons_zero,List.set_cons_succ,List.getElem_toArray,List.getElem_cons_zero,List.getElem_cons_succ])
         | (go_at_call 49;refine (hmv1 _).mono ?_;rintro e w8 ⟨rfl,hb8⟩;have rc8:=zag hb8 rc7;have rn8:=zag hb8 rn7)
         | (refine wpList_load_mid (w:=w7) rfl 52 _ rfl w.heap.size 0 rfl c.cells _ rc7 Tryz.underlying52 rfl ic ?_;simp only [Act.put,List.setIfInBounds_toArray,List.set_cons_zero,List.set_cons_succ,List.getElem_toArray,List.getElem_cons_zero,List.getElem_cons_succ])
         | (refine wpList_load_mid (w:=w7) rfl 106 _ rfl w5.heap.size 0 rfl a.now.cells _ rn7 Tryz.underlying106 rfl a1 ?_;simp only [Act.put,List.setIfInBounds_toArray,List.set_cons_zero,List.set_cons_succ,List.getElem_toArray,List.getElem_cons_zero,List.getElem_cons_succ]))
        go_roundw
        case rel => exact ⟨p + 1,g,cap,by omega,by go_num,by rw [HT.out],by rw [HT.out];exact HX.out.keep (g12),zag (g12) rn7,hgn,by have:=(g12).size;omega⟩
        case measure => simp [intOf];omega
       | false =>
        have HT : Hid (tin (nxS c) k a.now (p + 1) (touS c k) = M ++ [⟨y,k,p⟩]):=by show _ = _;rw [hT,hti];rfl
        clear hT hti
        go_wp2_with (first
         | (at_builtin;have hq:=hb12;refine wpList_append_lies _ rfl _ _ _ rfl w0.heap.size 123 i0 _ 20 40 Tryz.underlying69 hi0 hz0 hzz1 hzz2 rfl (by omega) _ M.length _ rfl ((zbc HX.out.own g12).alloc _) ⟨w12.heap.size,0,none⟩ 1 1 (stC ⟨y,k,p⟩) rfl (HYL.out) (World.news_of_block (heap_alloc_new w12 _)) HY1.out (by omega) (by unfold maxLen;omega) (by omega) (by have:=g12.size;have:=HX.out.bel.size;simp;omega) (w12.heap.size + 1) (by simp) ?_;intro g2 cap2 w13 hown2 hgrow2 hat2 hlt2)
         | (have hq:=hb12;refine zr6 rfl 69 1 _ rfl _ (by rw [Array.toList_map];rfl) _ _ (eb2 _) ?_;simp only [Act.put,List.setIfInBounds_toArray,List.set_cons_zero,List.set_cons_succ,List.getElem_toArray,List.getElem_cons_zero,List.getElem_cons_succ])
         | (have hq:=hb12;refine zl5 rfl 123 _ rfl _ (by rw [Array.toList_map];rfl) _ eb1 ?_;simp only [Act.put,List.setIfInBounds_toArray,List.set_cons_zero,List.set_cons_succ,List.getElem_toArray,List.getElem_cons_zero,List.getElem_cons_succ])
         | (have hq:=hb12;refine wpList_load_mid (w:=w12) rfl 106 _ rfl w10.heap.size 0 rfl y.cells _ q12 Tryz.underlying106 rfl y1 ?_;simp only [Act.put,List.setIfInBounds_toArray,List.set_cons_zero,List.set_cons_succ,List.getElem_toArray,List.getElem_cons_zero,List.getElem_cons_succ])
         | (go_at_call 60;refine (hrc _ g11).mono ?_;rintro e w12 ⟨rfl,hb12⟩;have q12:=zag hb12 q11;have g12:=thn3 g11 hb12)
         | (have hq:=q11;refine wpList_load_mid (w:=w11) rfl 106 _ rfl w10.heap.size 0 rfl y.cells _ q11 Tryz.underlying106 rfl y1 ?_;simp only [Act.put,List.setIfInBounds_toArray,List.set_cons_zero,List.set_cons_succ,List.getElem_toArray,List.getElem_cons_zero,List.getElem_cons_succ])
         | (have hq:=hb10;refine zcq rfl 106 _ _ rfl w10.heap.size 0 y.cells.toArray rfl rfl (zda hy18 (by rfl)) y2 y3 (fun W => W.rangeAt w10.heap.size 0 y.cells /\ Below w7.heap.size w7 W) (HN.out (thn3 (thn3 hb8 hb9) hb10) (by rfl)) ?_;rintro w11 ⟨q11,g11⟩)
         | (go_at_call 50;refine (haf _).mono ?_;rintro e w10 ⟨rfl,hb10⟩)
         | (have hq:=hb9;refine wpList_load_mid (w:=w9) rfl 106 _ rfl w5.heap.size 0 rfl a.now.cells _ rn9 Tryz.underlying106 rfl a1 ?_;simp only [Act.put,List.setIfInBounds_toArray,List.set_cons_zero,List.set_cons_succ,List.getElem_toArray,List.getElem_cons_zero,List.getElem_cons_succ])
         | (go_at_call 52;refine (hsf1 _).mono ?_;rintro e w9 ⟨rfl,hb9⟩;have rn9:=zag hb9 rn8)
         | (have hq:=hb8;refine zdi (w:=w8) (by rfl) 52 _ rfl w.heap.size 0 rfl c.cells _ rc8 Tryz.underlying52 rfl ic ?_;simp only [Act.put,List.setIfInBounds_toArray,List.set_cons_zero,List.set_cons_succ,List.getElem_toArray,List.getElem_cons_zero,List.getElem_cons_succ])
         | (have hq:=hb8;refine zdi (w:=w8) (by rfl) 106 _ rfl w5.heap.size 0 rfl a.now.cells _ rn8 Tryz.underlying106 rfl a1 ?_;simp only [Act.put,List.setIfInBounds_toArray,List.set_cons_zero,List.set_cons_succ,List.getElem_toArray,List.getElem_cons_zero,List.getElem_cons_succ])
         | (go_at_call 49;refine (hmv1 _).mono ?_;rintro e w8 ⟨rfl,hb8⟩;have rc8:=zag hb8 rc7;have rn8:=zag hb8 rn7)
         | (refine wpList_load_mid (w:=w7) rfl 52 _ rfl w.heap.size 0 rfl c.cells _ rc7 Tryz.underlying52 rfl ic ?_;simp only [Act.put,List.setIfInBounds_toArray,List.set_cons_zero,List.set_cons_succ,List.getElem_toArray,List.getElem_cons_zero,List.getElem_cons_succ])
         | (refine wpList_load_mid (w:=w7) rfl 106 _ rfl w5.heap.size 0 rfl a.now.cells _ rn7 Tryz.underlying106 rfl a1 ?_;simp only [Act.put,List.setIfInBounds_toArray,List.set_cons_zero,List.set_cons_succ,List.getElem_toArray,List.getElem_cons_zero,List.getElem_cons_succ]))
        go_roundw
        case rel =>
         have z12:=g12.size
         have zg:=hgrow2.size
         have zx:=HX.out.bel.size
         have hg2n : g2 ≠ w5.heap.size:=fun e => by
          rcases hat2 with h2 | h2
          ·cases h2;exact hgn e
          ·omega
         refine ⟨p + 1,g2,cap2,by omega,by go_num,by rw [HT.out,List.length_append];rfl,?_,?_,hg2n,by simp at zg;omega⟩
         ·rw [HT.out]
          refine ⟨by rw [zq3,List.length_append];exact hown2,?_⟩
          exact Below.grown ((thn3 HX.out.bel g12).alloc (by omega) _) hgrow2 (by simp;omega) (fun k hk => by cases hk;exact g1)
         ·exact zx0 (zag (belS _ _) (zag g12 rn7)) hgrow2 (fun e => by cases e;exact hgn rfl)
        case measure => simp [intOf];omega
    ·obtain rfl : p = 9:=by omega
     have hts:=zri HA.out
     have hk1 : k + 1 <= (touS c (k + 1)).length:=by
      rw [hts];exact (List.getElem?_eq_some_iff.1 (zfx HA.out 9)).1
     rw [<- hts] at HX
     have HTS:=(zab (congrArg List.length hts))
     clear hT hts hMl hMo
     go_wp2_with fail
     go_roundw
     case rel => exact ⟨k + 1,g,cap,by go_num,by rw [HTS.out],hk1,HX⟩
     case measure => simp [intOf];omega
  ·have hkl : (touS c k).length = k:=by omega
   have rc5:=zag HX.out.bel rc0
   have rw5:=zc4 (k:=18) (ds:=c.wnt.map Value.bool) rc5 (fun j v hj => by
    rw [List.getElem?_map] at hj
    obtain ⟨b,hb,rfl⟩:=Option.map_eq_some_iff.1 hj
    rw [ChD.cells,List.getElem?_map,HC.out.get_wnt hb];rfl)
   rw [Nat.zero_add] at rw5
   have iw : (Tryz.prog.info? 49).map (·.size) = some (c.wnt.map Value.bool).length:=by rw [List.length_map,HC.out.wnt];exact Tryz.infoSet
   have eb:=ztb g (touS c k).length cap HC.out.wnt
   have rt5:=zz9 HX.out.bel rt0
   have htl : (zan g (touS c k).length cap c.wnt).length = 10:=by simp [zan,HC.out.wnt]
   have ht2 : w5.there (w.heap.size + 1) 0 (zan g (touS c k).length cap c.wnt).toArray.size:=by rw [show (zan g (touS c k).length cap c.wnt).toArray.size = 10 by simpa using htl];exact rt5
   have hi2 : (Tryz.prog.info? 71).map (·.size) = some (zan g (touS c k).length cap c.wnt).toArray.size:=by rw [show (zan g (touS c k).length cap c.wnt).toArray.size = 10 by simpa using htl];exact Tryz.infoTour
   have hi3 : (Tryz.prog.info? 71).map (·.size) = some (zan g (touS c k).length cap c.wnt).length:=by rw [htl];exact Tryz.infoTour
   have h1 : (zan g (touS c k).length cap c.wnt).toArray.all (·.oneCell') = true:=all_oneCell_toArray fun v hv => by
    rcases List.mem_cons.1 hv with rfl | hv
    ·rfl
    ·obtain ⟨b,_,rfl⟩:=List.mem_map.1 hv;rfl
   have hR : (fun W : World => W.rangeAt (w.heap.size + 1) 0 (zan g (touS c k).length cap c.wnt) /\ W.rangeAt g 0 (stsC (touS c k)) /\ Below w.heap.size w W) (w5.setCells (w.heap.size + 1) 0 (zan g (touS c k).length cap c.wnt)) :=
    ⟨World.rangeAt_setCells_same _ _ _ _ (by simpa using ht2),World.rangeAt_setCells_apart (zkz HX.out.own) _ _ _ (.inl (by have:=HS0.out;omega)),below_setCells (w.heap.size + 1) (Nat.le_succ _) _ _ (thn3 hB0 HX.out.bel)⟩
   have HR:= zab hR
   have HKL:= zab hkl
   clear hR hkl htl
   go_wp2_with (first
    | (refine wpList_load_mid (w:=w5) rfl 49 _ rfl w.heap.size 18 rfl (c.wnt.map Value.bool) _ rw5 Tryz.underlying49 rfl iw ?_;simp only [Act.put,List.setIfInBounds_toArray,List.set_cons_zero,List.set_cons_succ,List.getElem_toArray,List.getElem_cons_zero,List.getElem_cons_succ])
    | (refine zl5 rfl 71 _ rfl _ (by rw [Array.toList_map];rfl) _ eb ?_;simp only [Act.put,List.setIfInBounds_toArray,List.set_cons_zero,List.set_cons_succ,List.getElem_toArray,List.getElem_cons_zero,List.getElem_cons_succ])
    | (refine zcq rfl 71 _ _ rfl (w.heap.size + 1) 0 (zan g (touS c k).length cap c.wnt).toArray rfl rfl ht2 hi2 h1 (fun W => W.rangeAt (w.heap.size + 1) 0 (zan g (touS c k).length cap c.wnt) /\ W.rangeAt g 0 (stsC (touS c k)) /\ Below w.heap.size w W) HR.out ?_;rintro w6 ⟨q1,q2,q3⟩;simp only [Act.put,List.setIfInBounds_toArray,List.set_cons_zero,List.set_cons_succ,List.getElem_toArray,List.getElem_cons_zero,List.getElem_cons_succ]))
   refine bodyPost_ret (v:=.agg (zan g (touS c k).length cap c.wnt).toArray) ?_ rfl ⟨g,cap,(touS c k).length,rfl,by rw [HKL.out,HKL.out],by rw [HKL.out];exact q2,q3⟩
   have hlv:=run_loadVar_mid (P:=Tryz.prog) w6 (w.heap.size + 1) 0 71 _ _ q1 Tryz.underlying71 rfl hi3
   simp [results,Tryz.results34,asAddr,Act.put,hlv]
end
end Go.Proofs.YtkkekopomiehlaaGreat
