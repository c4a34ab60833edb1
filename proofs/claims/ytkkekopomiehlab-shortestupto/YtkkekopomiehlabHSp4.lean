import Derived.Test.YtkkekopomiehlabHGp3
set_option linter.unusedVariables false
set_option linter.unusedSimpArgs false
set_option maxHeartbeats 40000000
namespace Go.Proofs.Ytkkekopomiehlab
section
set_option maxRecDepth 8000
open Go.RowKit
open Go.Lib (below_setCells)
def zah (g n cap : Nat) (wn : List Bool) : List Value:=.slice (some ⟨g,0,none⟩) n cap :: wn.map Value.bool
structure Xp (w0 wr : World) (g cap : Nat) (L : List (TS SiD)) : Prop where
 own : wr.ownsRow w0.heap.size 110 20 (.slice (some ⟨g,0,none⟩) L.length cap) L.length (stsC L)
 bel : Below w0.heap.size w0 wr
theorem Xp.keep {w0 wr wr' : World} {g cap : Nat} {L : List (TS SiD)} (h : Xp w0 wr g cap L) (hb : Below wr.heap.size wr wr') : Xp w0 wr' g cap L:=⟨zci h.own hb,thn3 h.bel hb⟩
theorem zp0 {P : Program} {ops : Array Oper} {l : List Oper} {a : Act} {w : World} {Q : Exit -> Act -> World -> Prop} (R : World -> Prop) (hR : R w) (h : ∀ W,R W -> wpList P ops Q l a W) : wpList P ops Q l a w:=h w hR
theorem zbq {w : World} {cs xs : Array Value} {t : TypeId} {n : Nat} (hn : xs.size = n) (hc : cs.size = n) : (w.alloc (.cells cs t)).there w.heap.size 0 xs.size:=by
 rw [hn,<- hc];exact zbh (zan w _)
theorem znz {w w' : World} {row : Option Nat} {b o : Nat} {cs : List Value} (h : w.rangeAt b o cs) (hg : w.grownBy w' row) (hne : some b ≠ row) : w'.rangeAt b o cs:=fun j v hj => hg.cell (h j v hj) hne
theorem zor {t : TS SiD} {u : Value} (hu : u ∈ stC t) : u.oneCell' = true:=by
 have:=Array.all_eq_true_iff_forall_mem.1 (zev t) u (by simpa using hu)
 exact this
theorem zeq {w : World} {b o : Nat} {cs : List Value} (h : w.rangeAt b o cs) (hl : 0 < cs.length) : b < w.heap.size:=zaj (h 0 _ (List.getElem?_eq_getElem hl))
theorem Try.infoStp2 : (Try.prog.info? 110).map (fun i => (i.zero,i.size,i.bytes)) = some (some (.agg #[.bool false,.bool false,.bool false,.bool false,.bool false,.bool false,.bool false,.bool false,.bool false,.bool false,.bool false,.bool false,.bool false,.bool false,.bool false,.bool false,.bool false,.bool false,.int .i64 0,.int .i64 0]),20,40):=by kernel_rfl
theorem Try.infoTour : (Try.prog.info? 70).map (·.size) = some 10:=by kernel_rfl
theorem zdx {c : ChD} (hc : c.ok) {k : Nat} (h : k <= (touS c k).length) : (touS c k).length <= 262144:=zjk (zez (nxS c) (begD c) k h).1 (zcq hc k)
theorem zo0 {c : ChD} (hc : c.ok) {k p : Nat} {a : TS SiD} (h : k <= (touS c k).length) (ha : (touS c k)[k]? = some a) (hp : p <= 9) : (tin (nxS c) k a.now p (touS c k)).length <= 262144 :=
 zjk ((zez (nxS c) (begD c) k h).1.tin ha p hp) (zjo (zcq hc k) (zcq hc k a (List.mem_of_getElem? ha)) p)
theorem zo5 {c : ChD} {k : Nat} {a : TS SiD} (ha : (touS c k)[k]? = some a) : touS c (k + 1) = tin (nxS c) k a.now 9 (touS c k):=by
 unfold touS at ha ⊢;rw [tou,ha]
theorem zo1 {c : ChD} {k p : Nat} {s : SiD} {L : List (TS SiD)} : tin (nxS c) k s (p + 1) L = if mvB c s p = true then (if sfB c s p = true then tins k (tin (nxS c) k s p L) p (aft s p) else tin (nxS c) k s p L) else tin (nxS c) k s p L:=by
 rw [tin];unfold nxS
 cases mvB c s p with
 | false => rfl
 | true => cases sfB c s p <;> rfl
theorem zj9 (c : ChD) (hc : c.ok) (w : World) :
  Calls Try.prog 27 #[.agg c.cells.toArray] w fun e W => ∃ g cap K,e = .returned (.agg (zah g K cap c.wnt).toArray) /\ (touS c K).length = K /\ W.rangeAt g 0 (stsC (touS c K)) /\ Below w.heap.size w W:=by
 have ic : (Try.prog.info? 50).map (·.size) = some c.cells.length:=by rw [hc.len];exact Try.infoCht
 have hbeg:=fun w => ze8 c hc w
 have h0:=zbx hc
 obtain ⟨i0,hi0,hz0,hzz1,hzz2⟩:=info_parts Try.infoStp2
 have e1:=zku h0
 have e2:=fun W => zgw h0 0 0 W
 have r0 : ∀ o,((w.alloc (.cells c.cells.toArray 50)).alloc o).rangeAt w.heap.size 0 c.cells:=fun o => zae (belS _ _) (za0 (zan w (.cells c.cells.toArray 50)))
 have hR0 : ∀ cs : Array Value,cs.size = 10 -> (fun W : World => W.rangeAt w.heap.size 0 c.cells /\ W.there (w.heap.size + 1) 0 10 /\ W.heap.size = w.heap.size + 2 /\ Below w.heap.size w W) ((w.alloc (.cells c.cells.toArray 50)).alloc (.cells cs 70)):=fun cs hcs => by
  refine ⟨r0 _,?_,by simp,(belS w _).alloc (by simp) _⟩
  have:=zbh (zan (w.alloc (.cells c.cells.toArray 50)) (.cells cs 70))
  rw [hcs,za9] at this;exact this
 have HC:= zab hc
 have H0:= zab h0
 have HR0:= zab hR0
 have h1c:=zev ⟨begD c,0,0⟩
 clear hc h0 hR0
 go_enter Try.func27,Try.ntmps27
 go_wp2_with (first
  | (go_at_call 40;refine (hbeg _).mono ?_;rintro e w1 ⟨rfl,hb1⟩)
  | (refine wpList_load_mid rfl 50 _ rfl w.heap.size 0 rfl c.cells _ (r0 _) Try.underlying50 rfl ic ?_;refine zp0 (fun W => W.rangeAt w.heap.size 0 c.cells /\ W.there (w.heap.size + 1) 0 10 /\ W.heap.size = w.heap.size + 2 /\ Below w.heap.size w W) (HR0.out _ (by rfl)) ?_;rintro w0 ⟨rc0,rt0,hs0,hB0⟩;simp only [Act.put,List.setIfInBounds_toArray,List.set_cons_zero,List.set_cons_succ,List.getElem_toArray,List.getElem_cons_zero,List.getElem_cons_succ])
  | (have hq:=hb1;refine zgj rfl 110 _ rfl _ (by rw [Array.toList_map];rfl) _ e1 ?_;simp only [Act.put,List.setIfInBounds_toArray,List.set_cons_zero,List.set_cons_succ,List.getElem_toArray,List.getElem_cons_zero,List.getElem_cons_succ])
  | (have hq:=hb1;refine zj3 rfl 68 1 _ rfl _ (by rw [Array.toList_map];rfl) _ _ (e2 _) ?_;simp only [Act.put,List.setIfInBounds_toArray,List.set_cons_zero,List.set_cons_succ,List.getElem_toArray,List.getElem_cons_zero,List.getElem_cons_succ]))
 have hX0 : Xp w0 (w1.alloc (.cells (stC ⟨begD c,0,0⟩).toArray 110)) w1.heap.size 1 (touS c 0):=by
  refine ⟨?_,hb1.alloc hb1.size _⟩
  have h20:=zb3 (t:=⟨begD c,0,0⟩) H0.out
  have:=World.ownsRow_lit (base:=w0.heap.size) (e:=110) (size:=20) w1 (stC ⟨begD c,0,0⟩).toArray 1 hb1.size (by unfold maxLen;omega) (by simpa using h20)
  have e3 : stsC (touS c 0) = (stC ⟨begD c,0,0⟩):=by show stC _ ++ [] = _;rw [List.append_nil]
  rw [e3];exact this
 have HX0:= zab hX0
 have HS0:= zab hs0
 clear hX0 e1 e2 hs0
 go_loopw [3,4] (fun vs vk wr => ∃ (k g cap : Nat),vk = .int .i64 k /\ vs = .slice (some ⟨g,0,none⟩) (touS c k).length cap /\ k <= (touS c k).length /\ Hid (Xp w0 wr g cap (touS c k))) (fun _ vk _ => 262145 - (intOf vk).toNat)
 case atStart => exact ⟨0,w1.heap.size,1,rfl,rfl,Nat.zero_le _,HX0⟩
 case round =>
  clear HX0 hb1
  obtain ⟨k,g,cap,rfl,rfl,hk,HX⟩:=hrel
  rename World => w5
  have hlen:=zdx HC.out hk
  have hx0 := znn k
  obtain ⟨hg1,hg2⟩:=HX.out.own.lt g rfl
  have z5:=HX.out.bel.size
  by_cases hlt : k < (touS c k).length
  ·obtain ⟨a,ha⟩ : ∃ a,(touS c k)[k]? = some a:=⟨_,List.getElem?_eq_getElem hlt⟩
   have hao:=zcq HC.out k a (List.mem_of_getElem? ha)
   obtain ⟨a1,a2,a3⟩:=zb2 hao
   have ra:=zbo (k:=0) (ds:=a.now.cells) (zex (zfy HX.out.own) (zcq HC.out k) ha) (fun j v hj => by
    rw [Nat.zero_add];unfold stC;rw [List.getElem?_append_left (List.getElem?_eq_some_iff.1 hj).1];exact hj)
   rw [Nat.add_zero] at ra
   have ha18 : a.now.cells.toArray.size = 18:=by simpa using hao.len
   have hR6 : ∀ cs : Array Value,cs.size = 18 -> (fun W : World => W.rangeAt w5.heap.size 0 a.now.cells /\ Below w5.heap.size w5 W) ((w5.alloc (.cells cs 91)).setCells w5.heap.size 0 a.now.cells):=fun cs hcs =>
    ⟨World.rangeAt_setCells_same _ w5.heap.size 0 a.now.cells (by simpa using zbq (xs:=a.now.cells.toArray) (t:=91) ha18 hcs),below_setCells _ (Nat.le_refl _) _ _ (belS _ _)⟩
   have HR6:= zab hR6
   have hx1 : (k : Int) < ((touS c k).length : Int):=by omega
   have HA:= zab ha
   have HAO:= zab hao
   clear hR6 ha hao
   go_wp2_with (first
    | (refine wpList_load_mid (w:=w5) rfl 91 _ rfl g (k * 20) rfl a.now.cells _ ra Try.underlying91 rfl a1 ?_;simp only [Act.put,List.setIfInBounds_toArray,List.set_cons_zero,List.set_cons_succ,List.getElem_toArray,List.getElem_cons_zero,List.getElem_cons_succ])
    | (refine zbi rfl 91 _ _ rfl w5.heap.size 0 a.now.cells.toArray rfl rfl (zbq ha18 (by rfl)) a2 a3 (fun W => W.rangeAt w5.heap.size 0 a.now.cells /\ Below w5.heap.size w5 W) (HR6.out _ (by rfl)) ?_;rintro w6 ⟨rn6,hb6⟩;simp only [Act.put,List.setIfInBounds_toArray,List.set_cons_zero,List.set_cons_succ,List.getElem_toArray,List.getElem_cons_zero,List.getElem_cons_succ]))
   have hs6:=zeq rn6 (by rw [HAO.out.len];omega)
   have HX6:=(zab (HX.out.keep hb6))
   clear ra HX
   go_loopw [3,6] (fun vs vp wr => ∃ (p g cap : Nat),p <= 9 /\ vp = .int .i64 p /\ vs = .slice (some ⟨g,0,none⟩) (tin (nxS c) k a.now p (touS c k)).length cap /\ Hid (Xp w0 wr g cap (tin (nxS c) k a.now p (touS c k))) /\ wr.rangeAt w5.heap.size 0 a.now.cells /\ g ≠ w5.heap.size /\ w5.heap.size < wr.heap.size) (fun _ vp _ => 9 - (intOf vp).toNat)
   case atStart => exact ⟨0,g,cap,Nat.zero_le _,rfl,rfl,HX6,rn6,by omega,hs6⟩
   case round =>
    clear HX6 rn6 hs6 hb6 hg1 hg2
    obtain ⟨p,g,cap,hp,rfl,rfl,HX,rn7,hgn,hs7⟩:=hrel
    rename World => w7
    have hMl:=zo0 HC.out hk HA.out hp
    have hMo:=zjo (c:=c) (k:=k) (zcq HC.out k) HAO.out p
    have rc7:=zae HX.out.bel rc0
    have hp0 := znn p
    have hT:=zo1 (c:=c) (k:=k) (p:=p) (s:=a.now) (L:=touS c k)
    by_cases hlt2 : p < 9
    ·have hmv1:=fun W => zhq c a.now p HC.out HAO.out W
     have hsf1:=fun W => zhr c a.now p HC.out HAO.out W
     have haf:=fun W => ze4 a.now p HAO.out W
     have hyo:=zcs HAO.out p
     obtain ⟨g1,g2⟩:=HX.out.own.lt g rfl
     have hx9 : (p : Int) < 9:=by omega
     generalize tin (nxS c) k a.now p (touS c k) = M at HX hMl hMo hT ⊢
     generalize aft a.now p = y at haf hyo hT
     have hrc:=fun (W : World) (h : Below w7.heap.size w7 W) => zlz M hMo y hyo g cap W hMl (zae h (zfy HX.out.own))
     obtain ⟨y1,y2,y3⟩:=zb2 hyo
     have hy18 : y.cells.toArray.size = 18:=by simpa using hyo.len
     have hN : ∀ {W : World} {cs : Array Value},Below w7.heap.size w7 W -> cs.size = 18 -> (fun V : World => V.rangeAt W.heap.size 0 y.cells /\ Below w7.heap.size w7 V) ((W.alloc (.cells cs 91)).setCells W.heap.size 0 y.cells):=fun {W cs} h hcs =>
      ⟨World.rangeAt_setCells_same _ W.heap.size 0 y.cells (by simpa using zbq (xs:=y.cells.toArray) (t:=91) hy18 hcs),below_setCells W.heap.size h.size _ _ (thn3 h (belS _ _))⟩
     have HN : Hid (∀ {W : World} {cs : Array Value},Below w7.heap.size w7 W -> cs.size = 18 -> (fun V : World => V.rangeAt W.heap.size 0 y.cells /\ Below w7.heap.size w7 V) ((W.alloc (.cells cs 91)).setCells W.heap.size 0 y.cells)):=hN
     have eb1:=zkt hyo k p
     have eb2:=fun W => zgw hyo k p W
     have HYL:=(zab (show (stC ⟨y,k,p⟩).length = 1 * 20 by rw [zb3 hyo]))
     have HY1:=(zab (fun (u : Value) (hu : u ∈ stC ⟨y,k,p⟩) => zor hu))
     have hti : tins k M p y = if (M.any fun t => zdw t.now y) = true then M else M ++ [⟨y,k,p⟩]:=rfl
     generalize mvB c a.now p = x at hmv1 hT
     generalize sfB c a.now p = z at hsf1 hT
     generalize (M.any fun t => zdw t.now y) = v at hrc hti
     clear hN hlt hlen hx0 hx1 hk hMo HA ha18 a2 a3
     cases x with
     | false =>
      have HT : Hid (tin (nxS c) k a.now (p + 1) (touS c k) = M):=by show _ = _;rw [hT];rfl
      clear hT hti hrc hsf1 haf eb1 eb2
      go_wp2_with (first
       | (go_at_call 41;refine (hmv1 _).mono ?_;rintro e w8 ⟨rfl,hb8⟩;have rc8:=zae hb8 rc7;have rn8:=zae hb8 rn7)
       | (refine wpList_load_mid (w:=w7) rfl 50 _ rfl w.heap.size 0 rfl c.cells _ rc7 Try.underlying50 rfl ic ?_;simp only [Act.put,List.setIfInBounds_toArray,List.set_cons_zero,List.set_cons_succ,List.getElem_toArray,List.getElem_cons_zero,List.getElem_cons_succ])
       | (refine wpList_load_mid (w:=w7) rfl 91 _ rfl w5.heap.size 0 rfl a.now.cells _ rn7 Try.underlying91 rfl a1 ?_;simp only [Act.put,List.setIfInBounds_toArray,List.set_cons_zero,List.set_cons_succ,List.getElem_toArray,List.getElem_cons_zero,List.getElem_cons_succ]))
      go_roundw
      case rel => exact ⟨p + 1,g,cap,by omega,by go_num,by rw [HT.out],by rw [HT.out];exact HX.out.keep (hb8),zae (hb8) rn7,hgn,by have:=(hb8).size;omega⟩
      case measure => simp [intOf];omega
     | true =>
      cases z with
      | false =>
       have HT : Hid (tin (nxS c) k a.now (p + 1) (touS c k) = M):=by show _ = _;rw [hT];rfl
       clear hT hti hrc haf eb1 eb2
       go_wp2_with (first
        | (go_at_call 44;refine (hsf1 _).mono ?_;rintro e w9 ⟨rfl,hb9⟩;have rn9:=zae hb9 rn8)
        | (have hq:=hb8;refine zbv (w:=w8) (by rfl) 50 _ rfl w.heap.size 0 rfl c.cells _ rc8 Try.underlying50 rfl ic ?_;simp only [Act.put,List.setIfInBounds_toArray,List.set_cons_zero,List.set_cons_succ,List.getElem_toArray,List.getElem_cons_zero,List.getElem_cons_succ])
        | (have hq:=hb8;refine zbv (w:=w8) (by rfl) 91 _ rfl w5.heap.size 0 rfl a.now.cells _ rn8 Try.underlying91 rfl a1 ?_;simp only [Act.put,List.setIfInBounds_toArray,List.set_cons_zero,List.set_cons_succ,List.getElem_toArray,List.getElem_cons_zero,List.getElem_cons_succ])
        | (go_at_call 41;refine (hmv1 _).mono ?_;rintro e w8 ⟨rfl,hb8⟩;have rc8:=zae hb8 rc7;have rn8:=zae hb8 rn7)
        | (refine wpList_load_mid (w:=w7) rfl 50 _ rfl w.heap.size 0 rfl c.cells _ rc7 Try.underlying50 rfl ic ?_;simp only [Act.put,List.setIfInBounds_toArray,List.set_cons_zero,List.set_cons_succ,List.getElem_toArray,List.getElem_cons_zero,List.getElem_cons_succ])
        | (refine wpList_load_mid (w:=w7) rfl 91 _ rfl w5.heap.size 0 rfl a.now.cells _ rn7 Try.underlying91 rfl a1 ?_;simp only [Act.put,List.setIfInBounds_toArray,List.set_cons_zero,List.set_cons_succ,List.getElem_toArray,List.getElem_cons_zero,List.getElem_cons_succ]))
       go_roundw
       case rel => exact ⟨p + 1,g,cap,by omega,by go_num,by rw [HT.out],by rw [HT.out];exact HX.out.keep (thn3 hb8 hb9),zae (thn3 hb8 hb9) rn7,hgn,by have:=(thn3 hb8 hb9).size;omega⟩
       case measure => simp [intOf];omega
      | true =>
       cases v with
       | true =>
        have HT : Hid (tin (nxS c) k a.now (p + 1) (touS c k) = M):=by show _ = _;rw [hT,hti];rfl
        clear hT hti eb1 eb2
        go_wp2_with (first
         | (go_at_call 50;refine (hrc _ g11).mono ?_;rintro e w12 ⟨rfl,hb12⟩;have q12:=zae hb12 q11;have g12:=thn3 g11 hb12)
         | (have hq:=q11;refine wpList_load_mid (w:=w11) rfl 91 _ rfl w10.heap.size 0 rfl y.cells _ q11 Try.underlying91 rfl y1 ?_;simp only [Act.put,List.setIfInBounds_toArray,List.set_cons_zero,List.set_cons_succ,List.getElem_toArray,List.getElem_cons_zero,List.getElem_cons_succ])
         | (have hq:=hb10;refine zbi rfl 91 _ _ rfl w10.heap.size 0 y.cells.toArray rfl rfl (zbq hy18 (by rfl)) y2 y3 (fun W => W.rangeAt w10.heap.size 0 y.cells /\ Below w7.heap.size w7 W) (HN.out (thn3 (thn3 hb8 hb9) hb10) (by rfl)) ?_;rintro w11 ⟨q11,g11⟩)
         | (go_at_call 42;refine (haf _).mono ?_;rintro e w10 ⟨rfl,hb10⟩)
         | (have hq:=hb9;refine wpList_load_mid (w:=w9) rfl 91 _ rfl w5.heap.size 0 rfl a.now.cells _ rn9 Try.underlying91 rfl a1 ?_;simp only [Act.put,List.setIfInBounds_toArray,List.set_cons_zero,List.set_cons_succ,List.getElem_toArray,List.getElem_cons_zero,List.getElem_cons_succ])
         | (go_at_call 44;refine (hsf1 _).mono ?_;rintro e w9 ⟨rfl,hb9⟩;have rn9:=zae hb9 rn8)
         | (have hq:=hb8;refine zbv (w:=w8) (by rfl) 50 _ rfl w.heap.size 0 rfl c.cells _ rc8 Try.underlying50 rfl ic ?_;simp only [Act.put,List.setIfInBounds_toArray,List.set_cons_zero,List.set_cons_succ,List.getElem_toArray,List.getElem_cons_zero,List.getElem_cons_succ])
         | (have hq:=hb8;refine zbv (w:=w8) (by rfl) 91 _ rfl w5.heap.size 0 rfl a.now.cells _ rn8 Try.underlying91 rfl a1 ?_;simp only [Act.put,List.setIfInBounds_toArray,List.set_cons_zero,List.set_cons_succ,List.getElem_toArray,List.getElem_cons_zero,List.getElem_cons_succ])
         | (go_at_call 41;refine (hmv1 _).mono ?_;rintro e w8 ⟨rfl,hb8⟩;have rc8:=zae hb8 rc7;have rn8:=zae hb8 rn7)
         | (refine wpList_load_mid (w:=w7) rfl 50 _ rfl w.heap.size 0 rfl c.cells _ rc7 Try.underlying50 rfl ic ?_;simp only [Act.put,List.setIfInBounds_toArray,List.set_cons_zero,List.set_cons_succ,List.getElem_toArray,List.getElem_cons_zero,List.getElem_cons_succ])
         | (refine wpList_load_mid (w:=w7) rfl 91 _ rfl w5.heap.size 0 rfl a.now.cells _ rn7 Try.underlying91 rfl a1 ?_;simp only [Act.put,List.setIfInBounds_toArray,List.set_cons_zero,List.set_cons_succ,List.getElem_toArray,List.getElem_cons_zero,List.getElem_cons_succ]))
        go_roundw
        case rel => exact ⟨p + 1,g,cap,by omega,by go_num,by rw [HT.out],by rw [HT.out];exact HX.out.keep (g12),zae (g12) rn7,hgn,by have:=(g12).size;omega⟩
        case measure => simp [intOf];omega
       | false =>
        have HT : Hid (tin (nxS c) k a.now (p + 1) (touS c k) = M ++ [⟨y,k,p⟩]):=by show _ = _;rw [hT,hti];rfl
        clear hT hti
        go_wp2_with (first
         | (at_builtin;have hq:=hb12;refine wpList_append_lies _ rfl _ _ _ rfl w0.heap.size 110 i0 _ 20 40 Try.underlying68 hi0 hz0 hzz1 hzz2 rfl (by omega) _ M.length _ rfl ((zci HX.out.own g12).alloc _) ⟨w12.heap.size,0,none⟩ 1 1 (stC ⟨y,k,p⟩) rfl (HYL.out) (World.news_of_block (heap_alloc_new w12 _)) HY1.out (by omega) (by unfold maxLen;omega) (by omega) (by have:=g12.size;have:=HX.out.bel.size;simp;omega) (w12.heap.size + 1) (by simp) ?_;intro g2 cap2 w13 hown2 hgrow2 hat2 hlt2)
         | (have hq:=hb12;refine zj3 rfl 68 1 _ rfl _ (by rw [Array.toList_map];rfl) _ _ (eb2 _) ?_;simp only [Act.put,List.setIfInBounds_toArray,List.set_cons_zero,List.set_cons_succ,List.getElem_toArray,List.getElem_cons_zero,List.getElem_cons_succ])
         | (have hq:=hb12;refine zgj rfl 110 _ rfl _ (by rw [Array.toList_map];rfl) _ eb1 ?_;simp only [Act.put,List.setIfInBounds_toArray,List.set_cons_zero,List.set_cons_succ,List.getElem_toArray,List.getElem_cons_zero,List.getElem_cons_succ])
         | (have hq:=hb12;refine wpList_load_mid (w:=w12) rfl 91 _ rfl w10.heap.size 0 rfl y.cells _ q12 Try.underlying91 rfl y1 ?_;simp only [Act.put,List.setIfInBounds_toArray,List.set_cons_zero,List.set_cons_succ,List.getElem_toArray,List.getElem_cons_zero,List.getElem_cons_succ])
         | (go_at_call 50;refine (hrc _ g11).mono ?_;rintro e w12 ⟨rfl,hb12⟩;have q12:=zae hb12 q11;have g12:=thn3 g11 hb12)
         | (have hq:=q11;refine wpList_load_mid (w:=w11) rfl 91 _ rfl w10.heap.size 0 rfl y.cells _ q11 Try.underlying91 rfl y1 ?_;simp only [Act.put,List.setIfInBounds_toArray,List.set_cons_zero,List.set_cons_succ,List.getElem_toArray,List.getElem_cons_zero,List.getElem_cons_succ])
         | (have hq:=hb10;refine zbi rfl 91 _ _ rfl w10.heap.size 0 y.cells.toArray rfl rfl (zbq hy18 (by rfl)) y2 y3 (fun W => W.rangeAt w10.heap.size 0 y.cells /\ Below w7.heap.size w7 W) (HN.out (thn3 (thn3 hb8 hb9) hb10) (by rfl)) ?_;rintro w11 ⟨q11,g11⟩)
         | (go_at_call 42;refine (haf _).mono ?_;rintro e w10 ⟨rfl,hb10⟩)
         | (have hq:=hb9;refine wpList_load_mid (w:=w9) rfl 91 _ rfl w5.heap.size 0 rfl a.now.cells _ rn9 Try.underlying91 rfl a1 ?_;simp only [Act.put,List.setIfInBounds_toArray,List.set_cons_zero,List.set_cons_succ,List.getElem_toArray,List.getElem_cons_zero,List.getElem_cons_succ])
         | (go_at_call 44;refine (hsf1 _).mono ?_;rintro e w9 ⟨rfl,hb9⟩;have rn9:=zae hb9 rn8)
         | (have hq:=hb8;refine zbv (w:=w8) (by rfl) 50 _ rfl w.heap.size 0 rfl c.cells _ rc8 Try.underlying50 rfl ic ?_;simp only [Act.put,List.setIfInBounds_toArray,List.set_cons_zero,List.set_cons_succ,List.getElem_toArray,List.getElem_cons_zero,List.getElem_cons_succ])
         | (have hq:=hb8;refine zbv (w:=w8) (by rfl) 91 _ rfl w5.heap.size 0 rfl a.now.cells _ rn8 Try.underlying91 rfl a1 ?_;simp only [Act.put,List.setIfInBounds_toArray,List.set_cons_zero,List.set_cons_succ,List.getElem_toArray,List.getElem_cons_zero,List.getElem_cons_succ])
         | (go_at_call 41;refine (hmv1 _).mono ?_;rintro e w8 ⟨rfl,hb8⟩;have rc8:=zae hb8 rc7;have rn8:=zae hb8 rn7)
         | (refine wpList_load_mid (w:=w7) rfl 50 _ rfl w.heap.size 0 rfl c.cells _ rc7 Try.underlying50 rfl ic ?_;simp only [Act.put,List.setIfInBounds_toArray,List.set_cons_zero,List.set_cons_succ,List.getElem_toArray,List.getElem_cons_zero,List.getElem_cons_succ])
         | (refine wpList_load_mid (w:=w7) rfl 91 _ rfl w5.heap.size 0 rfl a.now.cells _ rn7 Try.underlying91 rfl a1 ?_;simp only [Act.put,List.setIfInBounds_toArray,List.set_cons_zero,List.set_cons_succ,List.getElem_toArray,List.getElem_cons_zero,List.getElem_cons_succ]))
        go_roundw
        case rel =>
         have z12:=g12.size
         have zg:=hgrow2.size
         have zx:=HX.out.bel.size
         have hg2n : g2 ≠ w5.heap.size:=fun e => by
          rcases hat2 with h2 | h2
          ·cases h2;exact hgn e
          ·omega
         refine ⟨p + 1,g2,cap2,by omega,by go_num,by rw [HT.out,List.length_append];rfl,?_,?_,hg2n,by simp at zg;omega⟩
         ·rw [HT.out]
          refine ⟨by rw [zjm,List.length_append];exact hown2,?_⟩
          exact Below.grown ((thn3 HX.out.bel g12).alloc (by omega) _) hgrow2 (by simp;omega) (fun k hk => by cases hk;exact g1)
         ·exact znz (zae (belS _ _) (zae g12 rn7)) hgrow2 (fun e => by cases e;exact hgn rfl)
        case measure => simp [intOf];omega
    ·obtain rfl : p = 9:=by omega
     have hts:=zo5 HA.out
     have hk1 : k + 1 <= (touS c (k + 1)).length:=by
      rw [hts];exact (List.getElem?_eq_some_iff.1 (zc4 HA.out 9)).1
     rw [<- hts] at HX
     have HTS:=(zab (congrArg List.length hts))
     clear hT hts hMl hMo
     go_wp2_with fail
     go_roundw
     case rel => exact ⟨k + 1,g,cap,by go_num,by rw [HTS.out],hk1,HX⟩
     case measure => simp [intOf];omega
  ·have hkl : (touS c k).length = k:=by omega
   have rc5:=zae HX.out.bel rc0
   have rw5:=zbo (k:=18) (ds:=c.wnt.map Value.bool) rc5 (fun j v hj => by
    rw [List.getElem?_map] at hj
    obtain ⟨b,hb,rfl⟩:=Option.map_eq_some_iff.1 hj
    rw [ChD.cells,List.getElem?_map,HC.out.get_wnt hb];rfl)
   rw [Nat.zero_add] at rw5
   have iw : (Try.prog.info? 47).map (·.size) = some (c.wnt.map Value.bool).length:=by rw [List.length_map,HC.out.wnt];exact Try.infoSet
   have eb:=zkv g (touS c k).length cap HC.out.wnt
   have rt5:=zcc HX.out.bel rt0
   have htl : (zah g (touS c k).length cap c.wnt).length = 10:=by simp [zah,HC.out.wnt]
   have ht2 : w5.there (w.heap.size + 1) 0 (zah g (touS c k).length cap c.wnt).toArray.size:=by rw [show (zah g (touS c k).length cap c.wnt).toArray.size = 10 by simpa using htl];exact rt5
   have hi2 : (Try.prog.info? 70).map (·.size) = some (zah g (touS c k).length cap c.wnt).toArray.size:=by rw [show (zah g (touS c k).length cap c.wnt).toArray.size = 10 by simpa using htl];exact Try.infoTour
   have hi3 : (Try.prog.info? 70).map (·.size) = some (zah g (touS c k).length cap c.wnt).length:=by rw [htl];exact Try.infoTour
   have h1 : (zah g (touS c k).length cap c.wnt).toArray.all (·.oneCell') = true:=all_oneCell_toArray fun v hv => by
    rcases List.mem_cons.1 hv with rfl | hv
    ·rfl
    ·obtain ⟨b,_,rfl⟩:=List.mem_map.1 hv;rfl
   have hR : (fun W : World => W.rangeAt (w.heap.size + 1) 0 (zah g (touS c k).length cap c.wnt) /\ W.rangeAt g 0 (stsC (touS c k)) /\ Below w.heap.size w W) (w5.setCells (w.heap.size + 1) 0 (zah g (touS c k).length cap c.wnt)) :=
    ⟨World.rangeAt_setCells_same _ _ _ _ (by simpa using ht2),World.rangeAt_setCells_apart (zfy HX.out.own) _ _ _ (.inl (by have:=HS0.out;omega)),below_setCells (w.heap.size + 1) (Nat.le_succ _) _ _ (thn3 hB0 HX.out.bel)⟩
   have HR:= zab hR
   have HKL:= zab hkl
   clear hR hkl htl
   go_wp2_with (first
    | (refine wpList_load_mid (w:=w5) rfl 47 _ rfl w.heap.size 18 rfl (c.wnt.map Value.bool) _ rw5 Try.underlying47 rfl iw ?_;simp only [Act.put,List.setIfInBounds_toArray,List.set_cons_zero,List.set_cons_succ,List.getElem_toArray,List.getElem_cons_zero,List.getElem_cons_succ])
    | (refine zgj rfl 70 _ rfl _ (by rw [Array.toList_map];rfl) _ eb ?_;simp only [Act.put,List.setIfInBounds_toArray,List.set_cons_zero,List.set_cons_succ,List.getElem_toArray,List.getElem_cons_zero,List.getElem_cons_succ])
    | (refine zbi rfl 70 _ _ rfl (w.heap.size + 1) 0 (zah g (touS c k).length cap c.wnt).toArray rfl rfl ht2 hi2 h1 (fun W => W.rangeAt (w.heap.size + 1) 0 (zah g (touS c k).length cap c.wnt) /\ W.rangeAt g 0 (stsC (touS c k)) /\ Below w.heap.size w W) HR.out ?_;rintro w6 ⟨q1,q2,q3⟩;simp only [Act.put,List.setIfInBounds_toArray,List.set_cons_zero,List.set_cons_succ,List.getElem_toArray,List.getElem_cons_zero,List.getElem_cons_succ]))
   refine bodyPost_ret (v:=.agg (zah g (touS c k).length cap c.wnt).toArray) ?_ rfl ⟨g,cap,(touS c k).length,rfl,by rw [HKL.out,HKL.out],by rw [HKL.out];exact q2,q3⟩
   have hlv:=run_loadVar_mid (P:=Try.prog) w6 (w.heap.size + 1) 0 70 _ _ q1 Try.underlying70 rfl hi3
   simp [results,Try.results27,asAddr,Act.put,hlv]
end
section
set_option maxRecDepth 4000
open Go.RowKit
def LRel (w : World) (B : Nat) (v : Value) (rels : List (List PinD)) : Prop:=∃ (g g' : Nat) (cs : List Value),v = .slice (some ⟨g,0,none⟩) rels.length (rels.length + 1) /\ B <= g /\ g < g' /\ cs.length = rels.length /\ RowIs w g 79 (cs ++ [.slice (some ⟨g',0,none⟩) 1 1]) /\ RowIs w g' 108 zjj /\
 ∀ (k : Nat) (v : Value) (ps : List PinD),cs[k]? = some v -> rels[k]? = some ps -> LPin w (g + 1) v ps
theorem LRel.keep {w w' : World} (hb : Below w.heap.size w w') {B : Nat} {v : Value} {rels : List (List PinD)} (h : LRel w B v rels) : LRel w' B v rels:=by
 obtain ⟨g,g',cs,h1,h2,h3,h4,h5,h6,h7⟩:=h
 exact ⟨g,g',cs,h1,h2,h3,h4,h5.keep hb,h6.keep hb,fun k v ps a b => (h7 k v ps a b).keep hb⟩
theorem LRel.setOther {w : World} {B : Nat} {v : Value} {rels : List (List PinD)} (h : LRel w B v rels) {p : Addr} (hp : p.block < B) (u : Value) : LRel (w.setCell p u) B v rels:=by
 obtain ⟨g,g',cs,h1,h2,h3,h4,h5,h6,h7⟩:=h
 exact ⟨g,g',cs,h1,h2,h3,h4,h5.setOther (by omega) u,h6.setOther (by omega) u,fun k v ps a b => (h7 k v ps a b).setOther (by omega) u⟩
def svC (D : List (SvcD × Value)) : List Value:=D.flatMap fun p => [.int .i64 p.1.size,.int .i64 p.1.now,.int .i64 p.1.want,p.2]
end
end Go.Proofs.Ytkkekopomiehlab
