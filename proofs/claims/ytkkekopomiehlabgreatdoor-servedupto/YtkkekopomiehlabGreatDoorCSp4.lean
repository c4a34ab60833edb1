import Derived.Test.YtkkekopomiehlabGreatDoorCSp1
set_option linter.unusedVariables false
set_option linter.unusedSimpArgs false
set_option maxHeartbeats 40000000
open List renaming setIfInBounds_toArray->xe,getElem_cons_zero->xf,getElem_cons_succ->xg,getElem_toArray->xh,set_cons_zero->xj,set_cons_succ->xm,getElem?_eq_some_iff->xu,mem_of_getElem?->xv,getElem?_map->qd,getElem?_eq_getElem->qe,length_append->qg,range_succ->qi,map_append->qj,append_nil->qk,range->qo
open Go.Act renaming put->xo
open Go.World renaming rangeAt_setCells_same->xp,news_of_block->xy,ownsRow_made->qf
open Array renaming toList_map->xq
open Nat renaming zero_le->xz,le_refl->qh,zero_add->qn
open Go.Value renaming oneCell'->qm
open Go.RowKit
namespace Go.Proofs.YtkkekopomiehlabGreatDoor
section
set_option maxRecDepth 8000
open Go.Lib (below_setCells)
def zan (g n cap:Nat)(wn:List Bool):List Value:=.slice (some ⟨g,0,none⟩) n cap::wn.map Value.bool
structure Xp (w0 wr:World)(g cap:Nat)(L:List (TS SiD)):Prop where
 own:wr.ownsRow w0.heap.size 180 20 (.slice (some ⟨g,0,none⟩) L.length cap) L.length (stsC L)
 bel:Below w0.heap.size w0 wr
theorem Xp.keep {w0 wr wr':World}{g cap:Nat}{L:List (TS SiD)}(h:Xp w0 wr g cap L)(hb:Below wr.heap.size wr wr'):Xp w0 wr' g cap L:=⟨zas h.own hb,thn3 h.bel hb⟩
theorem yaej {P:Program}{ops:Array Oper}{l:List Oper}{a:Act}{w:World}{Q:Exit->Act->World->Prop}(R:World->Prop)(hR:R w)(h:∀ W,R W->wpList P ops Q l a W):wpList P ops Q l a w:=h w hR
theorem zc7 {w:World}{cs xs:Array Value}{t:TypeId}{n:Nat}(hn:xs.size=n)(hc:cs.size=n):(w.alloc (.cells cs t)).there w.heap.size 0 xs.size:=by
 rw[hn,<- hc];exact zck (zak w _)
theorem zz5 {w w':World}{row:Option Nat}{b o:Nat}{cs:List Value}(h:w.rangeAt b o cs)(hg:w.grownBy w' row)(hne:some b≠row):w'.rangeAt b o cs:=fun j v hj=>hg.cell (h j v hj) hne
theorem yab7 {t:TS SiD}{u:Value}(hu:u∈stC t):u.oneCell'=true:=by
 have:=Array.all_eq_true_iff_forall_mem.1 (zij t) u (by simpa using hu);exact this
theorem zib {w:World}{b o:Nat}{cs:List Value}(h:w.rangeAt b o cs)(hl:0<cs.length):b<w.heap.size:=zag (h 0 _ (qe hl))
theorem Tryz.infoStp2:(Tryz.prog.info? 180).map (fun i=>(i.zero,i.size,i.bytes))=some (some (.agg #[.bool false,.bool false,.bool false,.bool false,.bool false,.bool false,.bool false,.bool false,.bool false,.bool false,.bool false,.bool false,.bool false,.bool false,.bool false,.bool false,.bool false,.bool false,.int .i64 0,.int .i64 0]),20,40):=by kernel_rfl
theorem Tryz.infoTour:(Tryz.prog.info? 118).map (·.size)=some 10:=by kernel_rfl
theorem zgz {c:ChD}(hc:c.ok){k:Nat}(h:k<=(touS c k).length):(touS c k).length<=262144:=zrl (zir (nxS c) (begD c) k h).1 (ze8 hc k)
theorem yac4 {c:ChD}(hc:c.ok){k p:Nat}{a:TS SiD}(h:k<=(touS c k).length)(ha:(touS c k)[k]?=some a)(hp:p<=9):(tin (nxS c) k a.now p (touS c k)).length<=262144 :=
 zrl ((zir (nxS c) (begD c) k h).1.tin ha p hp) (zrt (ze8 hc k) (ze8 hc k a (xv ha)) p)
theorem yadm {c:ChD}{k:Nat}{a:TS SiD}(ha:(touS c k)[k]?=some a):touS c (k+1)=tin (nxS c) k a.now 9 (touS c k):=by
 unfold touS at ha ⊢;rw[tou,ha]
theorem yac5 {c:ChD}{k p:Nat}{s:SiD}{L:List (TS SiD)}:tin (nxS c) k s (p+1) L=if mvB c s p=true then (if sfB c s p=true then tins k (tin (nxS c) k s p L) p (aft s p) else tin (nxS c) k s p L) else tin (nxS c) k s p L:=by
 rw[tin];unfold nxS;cases mvB c s p with
 |false=>rfl
 |true=>cases sfB c s p<;>rfl
theorem zs2 (c:ChD)(hc:c.ok)(w:World) :
  Calls Tryz.prog 49 #[.agg c.cells.toArray] w fun e W=>∃ g cap K,e=.returned (.agg (zan g K cap c.wnt).toArray)/\(touS c K).length=K/\W.rangeAt g 0 (stsC (touS c K))/\Below w.heap.size w W:=by
 have ic:(Tryz.prog.info? 114).map (·.size)=some c.cells.length:=by rw[hc.len];exact Tryz.infoCht
 have hbeg:=fun w=>zjh c hc w;have h0:=zd0 hc;obtain⟨i0,hi0,hz0,hzz1,hzz2⟩:=info_parts Tryz.infoStp2;have e1:=zuj h0;have e2:=fun W=>zmu h0 0 0 W;have r0:∀ o,((w.alloc (.cells c.cells.toArray 114)).alloc o).rangeAt w.heap.size 0 c.cells:=fun o=>zaf (belS _ _) (zbl (zak w (.cells c.cells.toArray 114)));have hR0:∀ cs:Array Value,cs.size=10->(fun W:World=>W.rangeAt w.heap.size 0 c.cells/\W.there (w.heap.size+1) 0 10/\W.heap.size=w.heap.size+2/\Below w.heap.size w W) ((w.alloc (.cells c.cells.toArray 114)).alloc (.cells cs 118)):=fun cs hcs=>by
  refine⟨r0 _,?_,by simp,(belS w _).alloc (by simp) _⟩;have:=zck (zak (w.alloc (.cells c.cells.toArray 114)) (.cells cs 118));rw[hcs,zb5]at this;exact this
 have HC:= zaa hc;have H0:= zaa h0;have HR0:= zaa hR0;have h1c:=zij ⟨begD c,0,0⟩;clear hc h0 hR0
 go_enter Tryz.func49,Tryz.ntmps49
 go_wp2_with (first
  |(go_at_call 111;refine(hbeg _).mono ?_;rintro e w1 ⟨rfl,hb1⟩)
  |(refine wpList_load_mid rfl 114 _ rfl w.heap.size 0 rfl c.cells _ (r0 _) Tryz.underlying114 rfl ic ?_;refine yaej (fun W=>W.rangeAt w.heap.size 0 c.cells/\W.there (w.heap.size+1) 0 10/\W.heap.size=w.heap.size+2/\Below w.heap.size w W) (HR0.out _ (by rfl)) ?_;rintro w0 ⟨rc0,rt0,hs0,hB0⟩;simp only[xo,xe,xj,xm,xh,xf,xg])
  |(have hq:=hb1;refine zlq rfl 180 _ rfl _ (by rw[xq];rfl) _ e1 ?_;simp only[xo,xe,xj,xm,xh,xf,xg])
  |(have hq:=hb1;refine zsh rfl 116 1 _ rfl _ (by rw[xq];rfl) _ _ (e2 _) ?_;simp only[xo,xe,xj,xm,xh,xf,xg]))
 have hX0:Xp w0 (w1.alloc (.cells (stC ⟨begD c,0,0⟩).toArray 180)) w1.heap.size 1 (touS c 0):=by
  refine⟨?_,hb1.alloc hb1.size _⟩;have h20:=zdv (t:=⟨begD c,0,0⟩) H0.out;have:=World.ownsRow_lit (base:=w0.heap.size) (e:=180) (size:=20) w1 (stC ⟨begD c,0,0⟩).toArray 1 hb1.size (by unfold maxLen;omega) (by simpa using h20);have e3:stsC (touS c 0)=(stC ⟨begD c,0,0⟩):=by show stC _++[]=_;rw[qk]
  rw[e3];exact this
 have HX0:= zaa hX0;have HS0:= zaa hs0;clear hX0 e1 e2 hs0
 go_loopw [3,4] (fun vs vk wr=>∃ (k g cap:Nat),vk=.int .i64 k/\vs=.slice (some ⟨g,0,none⟩) (touS c k).length cap/\k<=(touS c k).length/\Hid (Xp w0 wr g cap (touS c k))) (fun _ vk _=>262145-(intOf vk).toNat)
 case atStart=>exact⟨0,w1.heap.size,1,rfl,rfl,xz _,HX0⟩
 case round =>
  clear HX0 hb1;obtain⟨k,g,cap,rfl,rfl,hk,HX⟩:=hrel
  rename World=>w5
  have hlen:=zgz HC.out hk;have hx0 := znn k;obtain⟨hg1,hg2⟩:=HX.out.own.lt g rfl;have z5:=HX.out.bel.size;by_cases hlt:k<(touS c k).length
  ·obtain⟨a,ha⟩:∃ a,(touS c k)[k]?=some a:=⟨_,qe hlt⟩;have hao:=ze8 HC.out k a (xv ha);obtain⟨a1,a2,a3⟩:=zdu hao;have ra:=zc4 (k:=0) (ds:=a.now.cells) (zim (zkp HX.out.own) (ze8 HC.out k) ha) (fun j v hj=>by
    rw[qn];unfold stC;rw[List.getElem?_append_left (xu.1 hj).1];exact hj)
   rw[Nat.add_zero]at ra;have ha18:a.now.cells.toArray.size=18:=by simpa using hao.len
   have hR6:∀ cs:Array Value,cs.size=18->(fun W:World=>W.rangeAt w5.heap.size 0 a.now.cells/\Below w5.heap.size w5 W) ((w5.alloc (.cells cs 177)).setCells w5.heap.size 0 a.now.cells):=fun cs hcs =>
    ⟨xp _ w5.heap.size 0 a.now.cells (by simpa using zc7 (xs:=a.now.cells.toArray) (t:=177) ha18 hcs),below_setCells _ (qh _) _ _ (belS _ _)⟩
   have HR6:= zaa hR6;have hx1:(k:Int)<((touS c k).length:Int):=by omega
   have HA:= zaa ha;have HAO:= zaa hao;clear hR6 ha hao
   go_wp2_with (first
    |(refine wpList_load_mid (w:=w5) rfl 177 _ rfl g (k*20) rfl a.now.cells _ ra Tryz.underlying177 rfl a1 ?_;simp only[xo,xe,xj,xm,xh,xf,xg])
    |(refine zcl rfl 177 _ _ rfl w5.heap.size 0 a.now.cells.toArray rfl rfl (zc7 ha18 (by rfl)) a2 a3 (fun W=>W.rangeAt w5.heap.size 0 a.now.cells/\Below w5.heap.size w5 W) (HR6.out _ (by rfl)) ?_;rintro w6 ⟨rn6,hb6⟩;simp only[xo,xe,xj,xm,xh,xf,xg]))
   have hs6:=zib rn6 (by rw[HAO.out.len];omega);have HX6:=(zaa (HX.out.keep hb6));clear ra HX
   go_loopw [3,6] (fun vs vp wr=>∃ (p g cap:Nat),p<=9/\vp=.int .i64 p/\vs=.slice (some ⟨g,0,none⟩) (tin (nxS c) k a.now p (touS c k)).length cap/\Hid (Xp w0 wr g cap (tin (nxS c) k a.now p (touS c k)))/\wr.rangeAt w5.heap.size 0 a.now.cells/\g≠w5.heap.size/\w5.heap.size<wr.heap.size) (fun _ vp _=>9-(intOf vp).toNat)
   case atStart=>exact⟨0,g,cap,xz _,rfl,rfl,HX6,rn6,by omega,hs6⟩
   case round =>
    clear HX6 rn6 hs6 hb6 hg1 hg2;obtain⟨p,g,cap,hp,rfl,rfl,HX,rn7,hgn,hs7⟩:=hrel
    rename World=>w7
    have hMl:=yac4 HC.out hk HA.out hp;have hMo:=zrt (c:=c) (k:=k) (ze8 HC.out k) HAO.out p;have rc7:=zaf HX.out.bel rc0;have hp0 := znn p;have hT:=yac5 (c:=c) (k:=k) (p:=p) (s:=a.now) (L:=touS c k);by_cases hlt2:p<9
    ·have hmv1:=fun W=>zos c a.now p HC.out HAO.out W;have hsf1:=fun W=>zot c a.now p HC.out HAO.out W;have haf:=fun W=>zjb a.now p HAO.out W;have hyo:=zfy HAO.out p;obtain⟨g1,g2⟩:=HX.out.own.lt g rfl;have hx9:(p:Int)<9:=by omega
     generalize tin (nxS c) k a.now p (touS c k)=M at HX hMl hMo hT ⊢;generalize aft a.now p=y at haf hyo hT;have hrc:=fun (W:World) (h:Below w7.heap.size w7 W)=>zw9 M hMo y hyo g cap W hMl (zaf h (zkp HX.out.own));obtain⟨y1,y2,y3⟩:=zdu hyo;have hy18:y.cells.toArray.size=18:=by simpa using hyo.len
     have hN:∀ {W:World} {cs:Array Value},Below w7.heap.size w7 W->cs.size=18->(fun V:World=>V.rangeAt W.heap.size 0 y.cells/\Below w7.heap.size w7 V) ((W.alloc (.cells cs 177)).setCells W.heap.size 0 y.cells):=fun {W cs} h hcs =>
      ⟨xp _ W.heap.size 0 y.cells (by simpa using zc7 (xs:=y.cells.toArray) (t:=177) hy18 hcs),below_setCells W.heap.size h.size _ _ (thn3 h (belS _ _))⟩
     have HN:Hid (∀ {W:World} {cs:Array Value},Below w7.heap.size w7 W->cs.size=18->(fun V:World=>V.rangeAt W.heap.size 0 y.cells/\Below w7.heap.size w7 V) ((W.alloc (.cells cs 177)).setCells W.heap.size 0 y.cells)):=hN;have eb1:=zui hyo k p;have eb2:=fun W=>zmu hyo k p W;have HYL:=(zaa (show (stC ⟨y,k,p⟩).length=1*20 by rw[zdv hyo]));have HY1:=(zaa (fun (u:Value) (hu:u∈stC ⟨y,k,p⟩)=>yab7 hu));have hti:tins k M p y=if (M.any fun t=>zgw t.now y)=true then M else M++[⟨y,k,p⟩]:=rfl
     generalize mvB c a.now p=x at hmv1 hT;generalize sfB c a.now p=z at hsf1 hT;generalize (M.any fun t=>zgw t.now y)=v at hrc hti;clear hN hlt hlen hx0 hx1 hk hMo HA ha18 a2 a3;cases x with
     |false =>
      have HT:Hid (tin (nxS c) k a.now (p+1) (touS c k)=M):=by show _=_;rw[hT];rfl
      clear hT hti hrc hsf1 haf eb1 eb2
      go_wp2_with (first
       |(go_at_call 112;refine(hmv1 _).mono ?_;rintro e w8 ⟨rfl,hb8⟩;have rc8:=zaf hb8 rc7;have rn8:=zaf hb8 rn7)
       |(refine wpList_load_mid (w:=w7) rfl 114 _ rfl w.heap.size 0 rfl c.cells _ rc7 Tryz.underlying114 rfl ic ?_;simp only[xo,xe,xj,xm,xh,xf,xg])
       |(refine wpList_load_mid (w:=w7) rfl 177 _ rfl w5.heap.size 0 rfl a.now.cells _ rn7 Tryz.underlying177 rfl a1 ?_;simp only[xo,xe,xj,xm,xh,xf,xg]))
      go_roundw
      case rel=>exact⟨p+1,g,cap,by omega,by go_num,by rw[HT.out],by rw[HT.out];exact HX.out.keep (hb8),zaf (hb8) rn7,hgn,by have:=(hb8).size;omega⟩
      case measure=>simp[intOf];omega
     |true =>
      cases z with
      |false =>
       have HT:Hid (tin (nxS c) k a.now (p+1) (touS c k)=M):=by show _=_;rw[hT];rfl
       clear hT hti hrc haf eb1 eb2
       go_wp2_with (first
        |(go_at_call 113;refine(hsf1 _).mono ?_;rintro e w9 ⟨rfl,hb9⟩;have rn9:=zaf hb9 rn8)
        |(have hq:=hb8;refine zdh (w:=w8) (by rfl) 114 _ rfl w.heap.size 0 rfl c.cells _ rc8 Tryz.underlying114 rfl ic ?_;simp only[xo,xe,xj,xm,xh,xf,xg])
        |(have hq:=hb8;refine zdh (w:=w8) (by rfl) 177 _ rfl w5.heap.size 0 rfl a.now.cells _ rn8 Tryz.underlying177 rfl a1 ?_;simp only[xo,xe,xj,xm,xh,xf,xg])
        |(go_at_call 112;refine(hmv1 _).mono ?_;rintro e w8 ⟨rfl,hb8⟩;have rc8:=zaf hb8 rc7;have rn8:=zaf hb8 rn7)
        |(refine wpList_load_mid (w:=w7) rfl 114 _ rfl w.heap.size 0 rfl c.cells _ rc7 Tryz.underlying114 rfl ic ?_;simp only[xo,xe,xj,xm,xh,xf,xg])
        |(refine wpList_load_mid (w:=w7) rfl 177 _ rfl w5.heap.size 0 rfl a.now.cells _ rn7 Tryz.underlying177 rfl a1 ?_;simp only[xo,xe,xj,xm,xh,xf,xg]))
       go_roundw
       case rel=>exact⟨p+1,g,cap,by omega,by go_num,by rw[HT.out],by rw[HT.out];exact HX.out.keep (thn3 hb8 hb9),zaf (thn3 hb8 hb9) rn7,hgn,by have:=(thn3 hb8 hb9).size;omega⟩
       case measure=>simp[intOf];omega
      |true =>
       cases v with
       |true =>
        have HT:Hid (tin (nxS c) k a.now (p+1) (touS c k)=M):=by show _=_;rw[hT,hti];rfl
        clear hT hti eb1 eb2
        go_wp2_with (first
         |(go_at_call 115;refine(hrc _ g11).mono ?_;rintro e w12 ⟨rfl,hb12⟩;have q12:=zaf hb12 q11;have g12:=thn3 g11 hb12)
         |(have hq:=q11;refine wpList_load_mid (w:=w11) rfl 177 _ rfl w10.heap.size 0 rfl y.cells _ q11 Tryz.underlying177 rfl y1 ?_;simp only[xo,xe,xj,xm,xh,xf,xg])
         |(have hq:=hb10;refine zcl rfl 177 _ _ rfl w10.heap.size 0 y.cells.toArray rfl rfl (zc7 hy18 (by rfl)) y2 y3 (fun W=>W.rangeAt w10.heap.size 0 y.cells/\Below w7.heap.size w7 W) (HN.out (thn3 (thn3 hb8 hb9) hb10) (by rfl)) ?_;rintro w11 ⟨q11,g11⟩)
         |(go_at_call 114;refine(haf _).mono ?_;rintro e w10 ⟨rfl,hb10⟩)
         |(have hq:=hb9;refine wpList_load_mid (w:=w9) rfl 177 _ rfl w5.heap.size 0 rfl a.now.cells _ rn9 Tryz.underlying177 rfl a1 ?_;simp only[xo,xe,xj,xm,xh,xf,xg])
         |(go_at_call 113;refine(hsf1 _).mono ?_;rintro e w9 ⟨rfl,hb9⟩;have rn9:=zaf hb9 rn8)
         |(have hq:=hb8;refine zdh (w:=w8) (by rfl) 114 _ rfl w.heap.size 0 rfl c.cells _ rc8 Tryz.underlying114 rfl ic ?_;simp only[xo,xe,xj,xm,xh,xf,xg])
         |(have hq:=hb8;refine zdh (w:=w8) (by rfl) 177 _ rfl w5.heap.size 0 rfl a.now.cells _ rn8 Tryz.underlying177 rfl a1 ?_;simp only[xo,xe,xj,xm,xh,xf,xg])
         |(go_at_call 112;refine(hmv1 _).mono ?_;rintro e w8 ⟨rfl,hb8⟩;have rc8:=zaf hb8 rc7;have rn8:=zaf hb8 rn7)
         |(refine wpList_load_mid (w:=w7) rfl 114 _ rfl w.heap.size 0 rfl c.cells _ rc7 Tryz.underlying114 rfl ic ?_;simp only[xo,xe,xj,xm,xh,xf,xg])
         |(refine wpList_load_mid (w:=w7) rfl 177 _ rfl w5.heap.size 0 rfl a.now.cells _ rn7 Tryz.underlying177 rfl a1 ?_;simp only[xo,xe,xj,xm,xh,xf,xg]))
        go_roundw
        case rel=>exact⟨p+1,g,cap,by omega,by go_num,by rw[HT.out],by rw[HT.out];exact HX.out.keep (g12),zaf (g12) rn7,hgn,by have:=(g12).size;omega⟩
        case measure=>simp[intOf];omega
       |false =>
        have HT:Hid (tin (nxS c) k a.now (p+1) (touS c k)=M++[⟨y,k,p⟩]):=by show _=_;rw[hT,hti];rfl
        clear hT hti
        go_wp2_with (first
         |(at_builtin;have hq:=hb12;refine wpList_append_lies _ rfl _ _ _ rfl w0.heap.size 180 i0 _ 20 40 Tryz.underlying116 hi0 hz0 hzz1 hzz2 rfl (by omega) _ M.length _ rfl ((zas HX.out.own g12).alloc _) ⟨w12.heap.size,0,none⟩ 1 1 (stC ⟨y,k,p⟩) rfl (HYL.out) (xy (heap_alloc_new w12 _)) HY1.out (by omega) (by unfold maxLen;omega) (by omega) (by have:=g12.size;have:=HX.out.bel.size;simp;omega) (w12.heap.size+1) (by simp) ?_;intro g2 cap2 w13 hown2 hgrow2 hat2 hlt2)
         |(have hq:=hb12;refine zsh rfl 116 1 _ rfl _ (by rw[xq];rfl) _ _ (eb2 _) ?_;simp only[xo,xe,xj,xm,xh,xf,xg])
         |(have hq:=hb12;refine zlq rfl 180 _ rfl _ (by rw[xq];rfl) _ eb1 ?_;simp only[xo,xe,xj,xm,xh,xf,xg])
         |(have hq:=hb12;refine wpList_load_mid (w:=w12) rfl 177 _ rfl w10.heap.size 0 rfl y.cells _ q12 Tryz.underlying177 rfl y1 ?_;simp only[xo,xe,xj,xm,xh,xf,xg])
         |(go_at_call 115;refine(hrc _ g11).mono ?_;rintro e w12 ⟨rfl,hb12⟩;have q12:=zaf hb12 q11;have g12:=thn3 g11 hb12)
         |(have hq:=q11;refine wpList_load_mid (w:=w11) rfl 177 _ rfl w10.heap.size 0 rfl y.cells _ q11 Tryz.underlying177 rfl y1 ?_;simp only[xo,xe,xj,xm,xh,xf,xg])
         |(have hq:=hb10;refine zcl rfl 177 _ _ rfl w10.heap.size 0 y.cells.toArray rfl rfl (zc7 hy18 (by rfl)) y2 y3 (fun W=>W.rangeAt w10.heap.size 0 y.cells/\Below w7.heap.size w7 W) (HN.out (thn3 (thn3 hb8 hb9) hb10) (by rfl)) ?_;rintro w11 ⟨q11,g11⟩)
         |(go_at_call 114;refine(haf _).mono ?_;rintro e w10 ⟨rfl,hb10⟩)
         |(have hq:=hb9;refine wpList_load_mid (w:=w9) rfl 177 _ rfl w5.heap.size 0 rfl a.now.cells _ rn9 Tryz.underlying177 rfl a1 ?_;simp only[xo,xe,xj,xm,xh,xf,xg])
         |(go_at_call 113;refine(hsf1 _).mono ?_;rintro e w9 ⟨rfl,hb9⟩;have rn9:=zaf hb9 rn8)
         |(have hq:=hb8;refine zdh (w:=w8) (by rfl) 114 _ rfl w.heap.size 0 rfl c.cells _ rc8 Tryz.underlying114 rfl ic ?_;simp only[xo,xe,xj,xm,xh,xf,xg])
         |(have hq:=hb8;refine zdh (w:=w8) (by rfl) 177 _ rfl w5.heap.size 0 rfl a.now.cells _ rn8 Tryz.underlying177 rfl a1 ?_;simp only[xo,xe,xj,xm,xh,xf,xg])
         |(go_at_call 112;refine(hmv1 _).mono ?_;rintro e w8 ⟨rfl,hb8⟩;have rc8:=zaf hb8 rc7;have rn8:=zaf hb8 rn7)
         |(refine wpList_load_mid (w:=w7) rfl 114 _ rfl w.heap.size 0 rfl c.cells _ rc7 Tryz.underlying114 rfl ic ?_;simp only[xo,xe,xj,xm,xh,xf,xg])
         |(refine wpList_load_mid (w:=w7) rfl 177 _ rfl w5.heap.size 0 rfl a.now.cells _ rn7 Tryz.underlying177 rfl a1 ?_;simp only[xo,xe,xj,xm,xh,xf,xg]))
        go_roundw
        case rel =>
         have z12:=g12.size;have zg:=hgrow2.size;have zx:=HX.out.bel.size;have hg2n:g2≠w5.heap.size:=fun e=>by
          rcases hat2 with h2|h2
          ·cases h2;exact hgn e
          ·omega
         refine⟨p+1,g2,cap2,by omega,by go_num,by rw[HT.out,qg];rfl,?_,?_,hg2n,by simp at zg;omega⟩
         ·rw[HT.out];refine⟨by rw[zro,qg];exact hown2,?_⟩;exact Below.grown ((thn3 HX.out.bel g12).alloc (by omega) _) hgrow2 (by simp;omega) (fun k hk=>by cases hk;exact g1)
         ·exact zz5 (zaf (belS _ _) (zaf g12 rn7)) hgrow2 (fun e=>by cases e;exact hgn rfl)
        case measure=>simp[intOf];omega
    ·obtain rfl:p=9:=by omega
     have hts:=yadm HA.out;have hk1:k+1<=(touS c (k+1)).length:=by
      rw[hts];exact(xu.1 (zfq HA.out 9)).1
     rw[<- hts]at HX;have HTS:=(zaa (congrArg List.length hts));clear hT hts hMl hMo
     go_wp2_with fail
     go_roundw
     case rel=>exact⟨k+1,g,cap,by go_num,by rw[HTS.out],hk1,HX⟩
     case measure=>simp[intOf];omega
  ·have hkl:(touS c k).length=k:=by omega
   have rc5:=zaf HX.out.bel rc0;have rw5:=zc4 (k:=18) (ds:=c.wnt.map Value.bool) rc5 (fun j v hj=>by
    rw[qd]at hj;obtain⟨b,hb,rfl⟩:=Option.map_eq_some_iff.1 hj;rw[ChD.cells,qd,HC.out.get_wnt hb];rfl)
   rw[qn]at rw5;have iw:(Tryz.prog.info? 111).map (·.size)=some (c.wnt.map Value.bool).length:=by rw[List.length_map,HC.out.wnt];exact Tryz.infoSet
   have eb:=zuk g (touS c k).length cap HC.out.wnt;have rt5:=zd9 HX.out.bel rt0;have htl:(zan g (touS c k).length cap c.wnt).length=10:=by simp[zan,HC.out.wnt]
   have ht2:w5.there (w.heap.size+1) 0 (zan g (touS c k).length cap c.wnt).toArray.size:=by rw[show (zan g (touS c k).length cap c.wnt).toArray.size=10 by simpa using htl];exact rt5
   have hi2:(Tryz.prog.info? 118).map (·.size)=some (zan g (touS c k).length cap c.wnt).toArray.size:=by rw[show (zan g (touS c k).length cap c.wnt).toArray.size=10 by simpa using htl];exact Tryz.infoTour
   have hi3:(Tryz.prog.info? 118).map (·.size)=some (zan g (touS c k).length cap c.wnt).length:=by rw[htl];exact Tryz.infoTour
   have h1:(zan g (touS c k).length cap c.wnt).toArray.all (·.oneCell')=true:=all_oneCell_toArray fun v hv=>by
    rcases List.mem_cons.1 hv with rfl|hv
    ·rfl
    ·obtain⟨b,_,rfl⟩:=List.mem_map.1 hv;rfl
   have hR:(fun W:World=>W.rangeAt (w.heap.size+1) 0 (zan g (touS c k).length cap c.wnt)/\W.rangeAt g 0 (stsC (touS c k))/\Below w.heap.size w W) (w5.setCells (w.heap.size+1) 0 (zan g (touS c k).length cap c.wnt)) :=
    ⟨xp _ _ _ _ (by simpa using ht2),World.rangeAt_setCells_apart (zkp HX.out.own) _ _ _ (.inl (by have:=HS0.out;omega)),below_setCells (w.heap.size+1) (Nat.le_succ _) _ _ (thn3 hB0 HX.out.bel)⟩
   have HR:= zaa hR;have HKL:= zaa hkl;clear hR hkl htl
   go_wp2_with (first
    |(refine wpList_load_mid (w:=w5) rfl 111 _ rfl w.heap.size 18 rfl (c.wnt.map Value.bool) _ rw5 Tryz.underlying111 rfl iw ?_;simp only[xo,xe,xj,xm,xh,xf,xg])
    |(refine zlq rfl 118 _ rfl _ (by rw[xq];rfl) _ eb ?_;simp only[xo,xe,xj,xm,xh,xf,xg])
    |(refine zcl rfl 118 _ _ rfl (w.heap.size+1) 0 (zan g (touS c k).length cap c.wnt).toArray rfl rfl ht2 hi2 h1 (fun W=>W.rangeAt (w.heap.size+1) 0 (zan g (touS c k).length cap c.wnt)/\W.rangeAt g 0 (stsC (touS c k))/\Below w.heap.size w W) HR.out ?_;rintro w6 ⟨q1,q2,q3⟩;simp only[xo,xe,xj,xm,xh,xf,xg]))
   refine bodyPost_ret (v:=.agg (zan g (touS c k).length cap c.wnt).toArray) ?_ rfl ⟨g,cap,(touS c k).length,rfl,by rw[HKL.out,HKL.out],by rw[HKL.out];exact q2,q3⟩;have hlv:=run_loadVar_mid (P:=Tryz.prog) w6 (w.heap.size+1) 0 118 _ _ q1 Tryz.underlying118 rfl hi3;simp[results,Tryz.results49,asAddr,xo,hlv]
end
section
set_option maxRecDepth 8000
open Go.Lib (below_setCells)
theorem Way.ge {α:Type}{L:List (TS α)}{g D:Nat}{v:Nat->Nat}(h:Way L g D v):∀ t,t<=D->t<=v t
 |0,_=>xz _
 |t+1,ht=>by have:=Way.ge h t (by omega);have:=(h.step t (by omega)).2.1;omega
def mvOf (p:Nat):Int×Int:=(((p / 3:Nat):Int),((p % 3:Nat):Int))
def wayM (L:List (TS SiD))(v:Nat->Nat)(t:Nat):Int×Int:=match L[v (t+1)]? with
 |some a=>mvOf a.to
 |none=>(0,0)
def wayL (L:List (TS SiD))(v:Nat->Nat)(D:Nat):List (Int×Int):=(qo D).map (wayM L v)
def wayB (L:List (TS SiD))(v:Nat->Nat)(D j:Nat):List (Int×Int):=(qo j).map fun i=>wayM L v (D-1-i)
theorem zo5 (a b:List (Int×Int)):mvC (a++b)=mvC a++mvC b:=by simp[mvC]
theorem yaee (L:List (TS SiD))(v:Nat->Nat)(D j:Nat):wayB L v D (j+1)=wayB L v D j++[wayM L v (D-1-j)]:=by unfold wayB;rw[qi,qj];rfl
theorem yaeh (L:List (TS SiD))(v:Nat->Nat)(j:Nat):wayL L v (j+1)=wayL L v j++[wayM L v j]:=by unfold wayL;rw[qi,qj];rfl
theorem yaed {L:List (TS SiD)}{v:Nat->Nat}{D i:Nat}(hi:i<D):(wayB L v D D)[i]?=some (wayM L v (D-1-i)):=by
 unfold wayB;rw[qd,List.getElem?_range hi];rfl
theorem zo6 {ms:List (Int×Int)}{i:Nat}{m:Int×Int}(h:ms[i]?=some m):(mvC ms)[i*2]?=some (.int .i64 m.1)/\(mvC ms)[i*2+1]?=some (.int .i64 m.2):=by
 have:=zxn h []
 rwa [qk]at this
theorem yacn {w:World}{g:Nat}{L:List (TS SiD)}{i:Nat}{t:TS SiD}(hr:w.rangeAt g 0 (stsC L))(h:zc6 L)(hi:L[i]?=some t):w.cell? ⟨g,i*20+18,none⟩=some (.int .i64 t.fr)/\w.cell? ⟨g,i*20+19,none⟩=some (.int .i64 t.to):=by
 have hl:=(h t (xv hi)).len;have hr:=zim hr h hi;refine⟨hr 18 _ ?_,hr 19 _ ?_⟩
 iterate 2
  ·unfold stC;rw[List.getElem?_append_right (by omega),hl];rfl
theorem zll (w:World)(g n cap:Nat)(wn:List Bool):(w.alloc (.cells (zan g n cap wn).toArray 118)).cell? ⟨w.heap.size,0,none⟩=some (.slice (some ⟨g,0,none⟩) n cap):=by
 have:=zbl (zak w (.cells (zan g n cap wn).toArray 118)) 0 _ rfl;exact this
theorem zxl (L:List (TS SiD))(hL:zc6 L)(hlen:L.length<=262144)(k D:Nat)(v:Nat->Nat)(hk:k<L.length)(hv:Way L k D v)(hto:∀ (j:Nat) (a:TS SiD),L[j+1]?=some a->a.to<9)(wn:List Bool)(g cap:Nat)(w:World)(hr:w.rangeAt g 0 (stsC L)) :
  Calls Tryz.prog 116 #[.agg (zan g L.length cap wn).toArray,.int .i64 k] w fun e W=>∃ u,e=.returned u/\W.ownsRow w.heap.size 62 2 u D (mvC (wayL L v D))/\Below w.heap.size w W:=by
 have hDk:D<=k:=by have:=hv.ge D (qh _);rw[hv.last]at this;exact this
 obtain⟨i0,hi0,hz0,hzz1,hzz2⟩:=info_parts Tryz.infoMvL;have hb0:=belS w (.cells (zan g L.length cap wn).toArray 118);have c0:=zll w g L.length cap wn;have HV:= zaa hv;have HL:= zaa hL;have HRR:=(zaa (zaf hb0 hr));have HTO:= zaa hto;have hlast:=hv.last;have hgw:g<w.heap.size:=zib hr (by rw[zil hL];omega);clear hv hL hr hto
 go_enter Tryz.func116,Tryz.ntmps116
 go_wp2_with fail
 go_loopw [1,5] (fun vk vb wr=>∃ j g1 c1:Nat,j<=D/\vk=.int .i64 ((v (D-j):Nat):Int)/\vb=.slice (some ⟨g1,0,none⟩) j c1/\wr.ownsRow (w.heap.size+1) 62 2 (.slice (some ⟨g1,0,none⟩) j c1) j (mvC (wayB L v D j))/\Below (w.heap.size+1) (w.alloc (.cells (zan g L.length cap wn).toArray 118)) wr) (fun vk _ _=>(intOf vk).toNat)
 case atStart =>
  refine⟨0,w.heap.size+1,0,xz _,by rw[Nat.sub_zero,hlast],rfl,?_,(Below.refl (w.heap.size+1) _).alloc (by simp) _⟩;have h:=qf (base:=w.heap.size+1) (e:=62) (size:=2) (w.alloc (.cells (zan g L.length cap wn).toArray 118)) #[] 0 (by simp) (by unfold maxLen;omega) rfl;rw[zb5]at h;exact h
 case round =>
  obtain⟨j,g1,c1,hj,rfl,rfl,hown,hb⟩:=hrel
  rename World=>w5
  have c5:w5.cell? ⟨w.heap.size,0,none⟩=some (.slice (some ⟨g,0,none⟩) L.length cap):=zab (hb.mono (by simp)) c0;have hcl:=zag c5;have z5:=hb.size;rw[zb5]at z5;have HB:= zaa hb;have HOWN:= zaa hown;obtain⟨lN1,lN2⟩:=hown.lt g1 rfl;have hn1:some w.heap.size≠some g1:=fun e=>by simp at e;omega
  have hn2:some g≠some g1:=fun e=>by simp at e;omega
  by_cases hlt:j<D
  ·obtain⟨h0,hd,a,ha,haf⟩:=HV.out.step (D-j-1) (by omega);rw[show D-j-1+1=D-j by omega]at h0 hd ha;obtain⟨m,hm⟩:∃ m,v (D-j)=m+1:=⟨v (D-j)-1,by omega⟩;have ha2:=ha;rw[hm]at ha2;have hto9:=HTO.out m a ha2;have hkl:=(xu.1 ha).1;obtain⟨s1,s2⟩:=yacn (zaf (hb.mono (by simp)) HRR.out) HL.out ha;have hgl:=zag s1;have hwm:wayM L v (D-1-j)=mvOf a.to:=by unfold wayM;rw[show D-1-j+1=D-j by omega,ha]
   have hB1:=yaee L v D j;rw[hwm]at hB1;have hmv:=fun W=>zkh a.to hto9 W;have hfr:a.fr=v (D-(j+1)):=by rw[haf];congr 1
   rw[hfr]at s1;have hd2:v (D-(j+1))<v (D-j):=by rw[show D-(j+1)=D-j-1 by omega];exact hd
   generalize v (D-j)=kk at h0 hkl s1 s2 hd2;have HB1:= zaa hB1;have hx0:(0:Int)<(kk:Int):=by omega
   have hx1:(kk:Int)<(L.length:Int):=by omega
   clear ha ha2 hm hwm hB1 hfr haf hd hown hb hlast
   go_wp2_with (first
    |(go_at_call 181;refine(hmv _).mono ?_;rintro e w6 ⟨rfl,hb6⟩;have c6:=zab hb6 c5;have s16:=zab hb6 s1;have hz6:=hb6.size)
    |(at_builtin;refine wpList_append_lies _ rfl _ _ _ rfl (w.heap.size+1) 62 i0 _ 2 16 Tryz.underlying27 hi0 hz0 hzz1 hzz2 rfl (by omega) (.slice (some ⟨g1,0,none⟩) j c1) j _ rfl ((zas HOWN.out hb6).alloc _) ⟨w6.heap.size,0,none⟩ 1 1 [.int .i64 ((a.to / 3:Nat):Int),.int .i64 ((a.to % 3:Nat):Int)] rfl rfl (xy (heap_alloc_new w6 _)) (by simp[qm]) (by omega) (by unfold maxLen;omega) (by omega) (by simp;omega) (w6.heap.size+1) (by simp) ?_;intro g2 cap2 w7 hown2 hgrow2 hat2 hlt2;have c7:=hgrow2.cell (zah _ c6) hn1;have s17:=hgrow2.cell (zah _ s16) hn2))
   go_roundw
   case rel =>
    have zg:=hgrow2.size;refine⟨j+1,g2,cap2,by omega,rfl,rfl,by rw[HB1.out,zo5];exact hown2,?_⟩;exact Below.grown ((HB.out.trans (hb6.mono z5)).alloc (by omega) _) hgrow2 (by simp;omega) (fun k hk=>by cases hk;exact lN1)
   case measure=>simp[intOf];omega
  ·obtain rfl:j=D:=by omega
   have hz0':((v (j-j):Nat):Int)=0:=by rw[Nat.sub_self,HV.out.zero];rfl
   rw[hz0'];have hjl:j<=262144:=by omega
   clear hown hb hlast hz0'
   go_wp2_with fail
   go_loopw [6,7] (fun vm va wr=>∃ i g2 c2:Nat,i<=j/\va=.int .i64 ((j:Int)-1-i)/\vm=.slice (some ⟨g2,0,none⟩) i c2/\wr.ownsRow (w5.heap.size) 62 2 (.slice (some ⟨g2,0,none⟩) i c2) i (mvC (wayL L v i))/\Below w5.heap.size w5 wr) (fun _ va _=>(intOf va+1).toNat)
   case atStart =>
    refine⟨0,w5.heap.size,0,xz _,by simp,rfl,?_,belS _ _⟩;exact qf (base:=w5.heap.size) (e:=62) (size:=2) w5 #[] 0 (qh _) (by unfold maxLen;omega) rfl
   case round =>
    obtain⟨i,g2,c2,hi,rfl,rfl,hown,hb⟩:=hrel
    rename World=>w6
    obtain⟨l1,l2⟩:=hown.lt g2 rfl;have z6:=hb.size;have HOW2:= zaa hown;have HB2:= zaa hb;clear hown hb;by_cases hlt:i<j
    ·have hget:=yaed (L:=L) (v:=v) (D:=j) (i:=j-1-i) (by omega);rw[show j-1-(j-1-i)=i by omega]at hget;obtain⟨m1,m2⟩:=zo6 hget;have q1:w6.cell? ⟨g1,(j-1-i)*2,none⟩=some (.int .i64 (wayM L v i).1):=zab HB2.out (by rw[HOWN.out.cellAt _ (by omega)];exact m1);have q2:w6.cell? ⟨g1,(j-1-i)*2+1,none⟩=some (.int .i64 (wayM L v i).2):=zab HB2.out (by rw[HOWN.out.cellAt _ (by omega)];exact m2);have hidx:(j:Int)-1-i=((j-1-i:Nat):Int):=by omega
     have hS:=yaeh L v i;generalize wayM L v i=q at q1 q2 hS;have HS:= zaa hS;have hg6:=zag q1;rw[hidx];have hy0:(0:Int)<=((j-1-i:Nat):Int):=Int.natCast_nonneg _;have hy1:((j-1-i:Nat):Int)<(j:Int):=by omega
     have HI:= zaa hidx;clear hidx hS hget m1 m2;generalize j-1-i=r at *
     go_wp2_with (at_builtin;refine wpList_append_lies _ rfl _ _ _ rfl w5.heap.size 62 i0 _ 2 16 Tryz.underlying27 hi0 hz0 hzz1 hzz2 rfl (by omega) (.slice (some ⟨g2,0,none⟩) i c2) i _ rfl (HOW2.out.alloc _) ⟨w6.heap.size,0,none⟩ 1 1 [.int .i64 q.1,.int .i64 q.2] rfl rfl (xy (heap_alloc_new w6 _)) (by simp[qm]) (by omega) (by unfold maxLen;omega) (by omega) (by simp;omega) (w6.heap.size+1) (by simp) ?_;intro g3 cap3 w7 hown3 hgrow3 hat3 hlt3)
     go_roundw
     case rel =>
      refine⟨i+1,g3,cap3,by omega,by rw[<- HI.out];congr 1;omega,rfl,by rw[HS.out,zo5];exact hown3,?_⟩;exact Below.grown (HB2.out.alloc (by omega) _) hgrow3 (by simp;omega) (fun k hk=>by cases hk;exact l1)
     case measure=>simp[intOf]
    ·obtain rfl:i=j:=by omega
     have e1:(i:Int)-1-i=-1:=by omega
     rw[e1];clear e1
     go_wp2_with fail
     go_ret;exact⟨_,rfl,HOW2.out.mono (by omega),thn3 (hb0.trans (HB.out.mono (by simp))) HB2.out⟩
end
end Go.Proofs.YtkkekopomiehlabGreatDoor
