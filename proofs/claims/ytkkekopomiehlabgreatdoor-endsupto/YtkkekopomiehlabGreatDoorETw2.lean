import Derived.Test.YtkkekopomiehlabGreatDoorEPy23
set_option linter.unusedVariables false
set_option linter.unusedSimpArgs false
set_option maxHeartbeats 40000000
open List renaming setIfInBounds_toArray->xe,getElem_cons_zero->xf,getElem_cons_succ->xg,getElem_toArray->xh,set_cons_zero->xj,set_cons_succ->xm,getElem?_eq_getElem->xo,getElem?_eq_some_iff->xq,take_of_length_le->xv,getD_eq_getElem?_getD->qf,getElem?_take_of_lt->qg,getElem?_append_right->qj,getElem?_append_left->qk,length_take->qn,mem_of_getElem?->qq,take_add_one->qy,getElem?_map->q9,length_nil->ua,length_map->uc,range->ue,mem_map->ug
open Go.World.ownsRow renaming lt->xp
open And renaming intro->xu
open Go.Act renaming put->xy
open Bool renaming and_eq_true->xz,true_and->qd,eq_false_iff->qh
open Nat renaming zero_le->qe,le_refl->qp,sub_self->uf,mul_one->uh
open Or renaming inl->qi
open Go.World renaming ownsRow_nil->qm,news_of_block->qv
open Option renaming map_eq_some_iff->qo
open Go.AllReadyH renaming cons->qu,nil->qx
open Go.Value renaming oneCell'->ud
open Go.RowKit
set_option maxRecDepth 4000
namespace Go.Proofs.YtkkekopomiehlabGreatDoor
theorem Tryz.infoTpcK:(Tryz.prog.info? 104).map (fun i=>(i.zero,i.size,i.bytes))=some (some (.agg #[.int .i64 0]),1,8):=by kernel_rfl
theorem Tryz.infoSvcK:(Tryz.prog.info? 73).map (fun i=>(i.zero,i.size,i.bytes))=some (some (.agg #[.int .i64 0,.int .i64 0,.int .i64 0,.slice none 0 0]),4,48):=by kernel_rfl
theorem Tryz.infoRelK:(Tryz.prog.info? 108).map (fun i=>(i.zero,i.size,i.bytes))=some (some (.agg #[.slice none 0 0]),1,24):=by kernel_rfl
theorem zjh (b o j:Nat):(⟨b,o,none⟩:Addr).add j=⟨b,o+j,none⟩:=by
 unfold Addr.add;by_cases h0:j=0
 ·subst h0;rfl
 ·rw[if_neg h0]
theorem yac1 {w:World}{a:Option Addr}{ss:List ByteArray}(h:StrsAt w a ss):∀ (j:Nat) (u:Value),(ss.map Value.string)[j]?=some u->∃ ad,a=some ad/\w.cell? (ad.add j)=some u:=fun j u hu=>by
 rw[q9]at hu;obtain⟨s,hs,rfl⟩:=qo.1 hu;obtain⟨b,o,h1,h2⟩:=h j s hs;exact⟨_,h1,by rw[zjh];exact h2⟩
theorem zxx {w:World}{a:Option Addr}{ns:List Int}(h:IntsAt w a ns):∀ (j:Nat) (u:Value),(ns.map fun k=>Value.int .i64 k)[j]?=some u->∃ ad,a=some ad/\w.cell? (ad.add j)=some u:=fun j u hu=>by
 rw[q9]at hu;obtain⟨s,hs,rfl⟩:=qo.1 hu;obtain⟨b,o,h1,h2⟩:=h j s hs;exact⟨_,h1,by rw[zjh];exact h2⟩
theorem yaae {w:World}{a:Option Addr}{ps:List PinD}(h:PinsAt w a ps):∀ (j:Nat) (u:Value),(ps.flatMap pinF)[j]?=some u->∃ ad,a=some ad/\w.cell? (ad.add j)=some u:=fun j u hu=>by
 have hl:=(xq.1 hu).1;rw[zov (f:=pinF) (k:=3) (fun _=>rfl)]at hl;have hd:j / 3<ps.length:=by omega
 have hp:ps[j / 3]?=some ps[j / 3]:=xo hd;obtain⟨b,o,h1,h2,h3,h4⟩:=h (j / 3) _ hp;have hg:=za2 (f:=pinF) (k:=3) (fun _=>rfl) hp (j:=j % 3) (by omega);rw[show j / 3*3+j % 3=j by omega,hu]at hg;refine⟨_,h1,?_⟩;rw[zjh];have:j % 3=0\/j % 3=1\/j % 3=2:=by omega
 rcases this with e|e|e<;>rw[e]at hg<;>cases hg
 ·rw[show o+j=o+j / 3*3 by omega];exact h2
 ·rw[show o+j=o+j / 3*3+1 by omega];exact h3
 ·rw[show o+j=o+j / 3*3+2 by omega];exact h4
theorem zyv (ss:List ByteArray):∀ u∈ss.map Value.string,u.oneCell'=true:=fun u hu=>by
 obtain⟨s,_,rfl⟩:=ug.1 hu;rfl
theorem zyt (ns:List Int):∀ u∈ns.map fun k=>Value.int .i64 k,u.oneCell'=true:=fun u hu=>by
 obtain⟨s,_,rfl⟩:=ug.1 hu;rfl
theorem zyu (ps:List PinD):∀ u∈ps.flatMap pinF,u.oneCell'=true:=fun u hu=>by
 obtain⟨p,_,hp⟩:=List.mem_flatMap.1 hu;simp only[pinF,List.mem_cons,List.not_mem_nil,or_false]at hp;rcases hp with rfl|rfl|rfl<;>rfl
def nil3:List Value:=[.slice none 0 0,.slice none 0 0,.slice none 0 0]
def zty (f:zac)(w:World)(e:Ending)(W:World):Prop:=∃ sa sc ta tc va vc,e=.returned (.agg #[.slice sa f.ss.length sc,.slice ta f.ts.length tc,.slice va f.vs.length vc])/\FleetAt W sa f.ss.length sc ta f.ts.length tc va f.vs.length vc f/\Below w.heap.size w W
theorem ziz (f:zac)(sa ta va:Option Addr)(sl sc tl tc vl vc:Nat)(w:World)(hf:FleetAt w sa sl sc ta tl tc va vl vc f) :
  Calls Tryz.prog 21 #[.agg #[.slice sa sl sc,.slice ta tl tc,.slice va vl vc]] w fun e W=>zty f w e W:=by
 obtain⟨iG,hiG,zG0,zG1,zG2⟩:=info_parts Tryz.infoStrL;obtain⟨iT,hiT,zT0,zT1,zT2⟩:=info_parts Tryz.infoTpcK;obtain⟨iV,hiV,zV0,zV1,zV2⟩:=info_parts Tryz.infoSvcK;obtain⟨iR,hiR,zR0,zR1,zR2⟩:=info_parts Tryz.infoRelK;obtain⟨iP,hiP,zP0,zP1,zP2⟩:=info_parts Tryz.infoPinK;have HIG:=zaa (xu hiG (xu zG0 (xu zG1 zG2)));have HIT:=zaa (xu hiT (xu zT0 (xu zT1 zT2)));have HIV:=zaa (xu hiV (xu zV0 (xu zV1 zV2)));have HIR:=zaa (xu hiR (xu zR0 (xu zR1 zR2)));have HIP:=zaa (xu hiP (xu zP0 (xu zP1 zP2)));clear hiG zG0 zG1 zG2 hiT zT0 zT1 zT2 hiV zV0 zV1 zV2 hiR zR0 zR1 zR2 hiP zP0 zP1 zP2;obtain⟨W1,hW1⟩:∃ W1,W1=((w.alloc (.cells #[.slice sa sl sc,.slice ta tl tc,.slice va vl vc] 26)).alloc (.cells #[.slice none 0 0,.slice none 0 0,.slice none 0 0] 26)).alloc (.cells #[.slice none 0 0,.slice none 0 0,.slice none 0 0] 26):=⟨_,rfl⟩;have HZ1:=zaa (show W1.heap.size=w.heap.size+3 by rw[hW1];simp);have F1:=zaa (show RowIs W1 w.heap.size 26 [.slice sa sl sc,.slice ta tl tc,.slice va vl vc] by rw[hW1];exact RowIs.keep (RowIs.keep (show RowIs _ w.heap.size _ _ from zal _ _) (bel1 _ _)) (bel1 _ _));have Z1:=zaa (show RowIs W1 (w.heap.size+1) 26 nil3 by rw[hW1];exact RowIs.keep (show RowIs _ (w.heap.size+1) 26 nil3 from nw2 _ _ _) (bel1 _ _));have G1:=zaa (show RowIs W1 (w.heap.size+1+1) 26 nil3 by rw[hW1];exact nw3' _ _ _ _);have B1:=zaa (show Below w.heap.size w W1 by rw[hW1];exact thn3 (thn3 (bel1 _ _) (bel1 _ _)) (bel1 _ _));have HF:=zaa hf;have n1:=yac1 (hf.keep B1.out).s4;have HN1:=zaa n1;have hsl:sl<=2000000:=by rw[hf.s1];exact hf.s2
 have htl:tl<=2000000:=by rw[hf.t1];exact hf.t2
 have hvl:vl<=2000000:=by rw[hf.v1];exact hf.v2
 have HSL:=zaa hf.s1;have HTL:=zaa hf.t1;have HVL:=zaa hf.v1;have HW1:=zaa hW1;clear hf n1 hW1
 go_enter Tryz.func21,Tryz.ntmps21
 go_wp2_with (first
  |(at_builtin;have hq:=B2;refine zsz rfl _ _ _ rfl (w.heap.size+3) 104 iT _ 1 8 Tryz.underlying23 HIT.out.1 HIT.out.2.1 HIT.out.2.2.1 HIT.out.2.2.2 rfl (by omega) rfl ta tl tc (f.ts.map fun k=>.int .i64 k) rfl (by rw[uc,HTL.out,uh]) (zxx (HF.out.keep B2.out).t3) (zyt _) (by omega) (by omega) HZ2.out ?_;intro gt w3' own3 gr3;obtain⟨gta,gtc,rfl,_⟩:=zdq own3;(try simp only[xy,xe,xj,xm,xh,xf,xg]);have C3:=zaa (show Chg (·= w.heap.size+1+1) (w2'.setCell ⟨w.heap.size+1+1,0,none⟩ (.slice gsa sl gsc)) (w3'.setCell ⟨w.heap.size+1+1,1,none⟩ (.slice gta tl gtc)) from((Chg.refl (·= w.heap.size+1+1) _).grown gr3 (by simp)).set (p:=⟨w.heap.size+1+1,1,none⟩) (.inl rfl) _);have G3:=zaa (show RowIs (w3'.setCell ⟨w.heap.size+1+1,1,none⟩ (.slice gta tl gtc)) (w.heap.size+1+1) 26 [.slice gsa sl gsc,.slice gta tl gtc,.slice none 0 0] from(G2.out.grown gr3 (by simp)).set 1 _);have g31:=(G2.out.grown gr3 (by simp)).cell (j:=1) rfl;have x31:=(G2.out.grown gr3 (by simp)).frozen 1;have O3:=zaa (show (w3'.setCell ⟨w.heap.size+1+1,1,none⟩ (.slice gta tl gtc)).ownsRow (w.heap.size+3) 104 1 (.slice gta tl gtc) tl (f.ts.map fun k=>.int .i64 k) from((Chg.refl (·= w.heap.size+1+1) w3').set (p:=⟨w.heap.size+1+1,1,none⟩) (.inl rfl) _).own own3 (fun b hb q=>by have:=(xp own3 b hb).1;omega));clear own3 gr3)
  |(at_builtin;rw[<- HW1.out];refine zsz rfl _ _ _ rfl (w.heap.size+3) 9 iG _ 1 16 Tryz.underlying22 HIG.out.1 HIG.out.2.1 HIG.out.2.2.1 HIG.out.2.2.2 rfl (by omega) rfl sa sl sc (f.ss.map Value.string) rfl (by rw[uc,HSL.out,uh]) HN1.out (zyv _) (by omega) (by omega) (by have:=HZ1.out;omega) ?_;intro gs w2' own2 gr2;obtain⟨gsa,gsc,rfl,_⟩:=zdq own2;(try simp only[xy,xe,xj,xm,xh,xf,xg]);have C2:=zaa (show Chg (·= w.heap.size+1+1) W1 (w2'.setCell ⟨w.heap.size+1+1,0,none⟩ (.slice gsa sl gsc)) from((Chg.refl (·= w.heap.size+1+1) W1).grown gr2 (by simp)).set (p:=⟨w.heap.size+1+1,0,none⟩) (.inl rfl) _);have G2:=zaa (show RowIs (w2'.setCell ⟨w.heap.size+1+1,0,none⟩ (.slice gsa sl gsc)) (w.heap.size+1+1) 26 [.slice gsa sl gsc,.slice none 0 0,.slice none 0 0] from(G1.out.grown gr2 (by simp)).set 0 _);have g20:=(G1.out.grown gr2 (by simp)).cell (j:=0) rfl;have x20:=(G1.out.grown gr2 (by simp)).frozen 0;have g21:=G2.out.cell (j:=1) rfl;have F2:=zaa (C2.out.row F1.out (by omega));have y1:=F2.out.cell (j:=1) rfl;have B2:=zaa (B1.out.trans (C2.out.bel B1.out.size (fun k hk q=>by omega)));have HZ2:=zaa (show w.heap.size+3<=(w2'.setCell ⟨w.heap.size+1+1,0,none⟩ (.slice gsa sl gsc)).heap.size from(by have:=HZ1.out;have:=C2.out.size;omega));have O2:=zaa (show (w2'.setCell ⟨w.heap.size+1+1,0,none⟩ (.slice gsa sl gsc)).ownsRow (w.heap.size+3) 9 1 (.slice gsa sl gsc) sl (f.ss.map Value.string) from((Chg.refl (·= w.heap.size+1+1) w2').set (p:=⟨w.heap.size+1+1,0,none⟩) (.inl rfl) _).own own2 (fun b hb q=>by have:=(xp own2 b hb).1;omega));clear own2 gr2))
 have F3:=zaa (C3.out.row F2.out (by omega));have Z3:=zaa (C3.out.row (C2.out.row Z1.out (by omega)) (by omega));have B3:=zaa (B2.out.trans (C3.out.bel B2.out.size (fun k hk q=>by omega)));have O2b:=zaa (C3.out.own O2.out (fun b hb q=>by have:=(xp O2.out b hb).1;omega));have z3:w.heap.size+3<=(w3'.setCell ⟨w.heap.size+1+1,1,none⟩ (.slice gta tl gtc)).heap.size:=by have:=HZ2.out;have:=C3.out.size;omega
 clear C3 C2 F2 F1 Z1 B2 B1 O2 HZ2 HZ1 G1 G2 g20 x20 g21 y1 g31 x31 HN1 HW1;generalize (w3'.setCell ⟨w.heap.size+1+1,1,none⟩ (.slice gta tl gtc))=w3 at *
 go_loopw [4] (fun vi wr=>∃ (i:Nat) (gv:Value) (rv:List Value),i<=vl/\vi=.int .i64 i/\RowIs wr (w.heap.size+1+1) 26 [.slice gsa sl gsc,.slice gta tl gtc,gv]/\wr.ownsRow w3.heap.size 73 4 gv i (((f.vs.take i).zip rv).flatMap svF)/\Hid (TwF wr w3.heap.size (f.vs.take i) rv)/\Chg (·= w.heap.size+1+1) w3 wr) (fun i _=>vl-(intOf i).toNat)
 case atStart=>exact⟨0,.slice none 0 0,[],qe _,rfl,G3.out,qm _ _ _ _,⟨rfl,fun i v u _ hu=>by simp at hu⟩,Chg.refl _ _⟩
 case round =>
  obtain⟨i,gv,rv,hi,rfl,hR,hO,HT,hC⟩:=hrel
  rename World=>w4
  have hx0 := znn i;have HR:=zaa hR;have HO:=zaa hO;have HC:=zaa hC;have z4:=hC.size;have B4:=zaa (show Below w.heap.size w w4 from B3.out.trans (hC.bel B3.out.size (fun k hk q=>by omega)));have F4:=zaa (hC.row F3.out (by omega));have y2:=F4.out.cell (j:=2) rfl;have lF:=F4.out.lt;by_cases hlt:i<vl
  ·obtain⟨V,hV⟩:∃ V,f.vs[i]?=some V:=⟨f.vs[i]'(by rw[<- HF.out.v1];exact hlt),xo _⟩;obtain⟨b,o,ra,rl,rc,rfl,d0,d1,d2,d3,hrs⟩:=(HF.out.keep B4.out).v3 i V hV;have hx1:(i:Int)<(vl:Int):=by omega
   have HV:=zaa hV;have HRS:=zaa hrs;have hrl:rl<=2000000:=by rw[hrs.1];exact hrs.2.1
   have HRL:=zaa hrs.1;have lb:=zag d0;obtain⟨Vs,Vn,Vw,Vr⟩:=V;simp only at d0 d1 d2 HRL HRS;clear hR hO hC hV hrs
   go_wp2_with fail
   go_big_region
   go_wp2_with fail
   have E5:=zaa (show RowIs ((w4.alloc (.cells #[.int .i64 Vs,.int .i64 Vn,.int .i64 Vw,.slice none 0 0] 73)).drew) w4.heap.size 73 [.int .i64 Vs,.int .i64 Vn,.int .i64 Vw,.slice none 0 0]from zal _ _);have C5:=zaa (show Below w4.heap.size w4 ((w4.alloc (.cells #[.int .i64 Vs,.int .i64 Vn,.int .i64 Vw,.slice none 0 0] 73)).drew) from(bel1 w4 _).drew);have l5:w4.heap.size<((w4.alloc (.cells #[.int .i64 Vs,.int .i64 Vn,.int .i64 Vw,.slice none 0 0] 73)).drew).heap.size:=E5.out.lt;generalize (w4.alloc (.cells #[.int .i64 Vs,.int .i64 Vn,.int .i64 Vw,.slice none 0 0] 73)).drew=w5 at *;have D3:=zaa (zab C5.out d3);have F5:=zaa (F4.out.keep C5.out);have R5:=zaa (RelSl.keepP C5.out HRS.out);have B5:=zaa (thn3 B4.out C5.out);clear d0 d1 d2 d3 y2 lF
   go_loopw [6] (fun vi wr=>∃ (k:Nat) (rvv:Value) (pv:List Value),k<=rl/\vi=.int .i64 k/\RowIs wr w4.heap.size 73 [.int .i64 Vs,.int .i64 Vn,.int .i64 Vw,rvv]/\wr.ownsRow w5.heap.size 108 1 rvv k pv/\Hid (∀ (j:Nat) (ps:List PinD) (u:Value),Vr[j]?=some ps->pv[j]?=some u->wr.ownsRow w5.heap.size 165 3 u ps.length (ps.flatMap pinF))/\Chg (·= w4.heap.size) w5 wr) (fun i _=>rl-(intOf i).toNat)
   case atStart=>exact⟨0,.slice none 0 0,[],qe _,rfl,E5.out,qm _ _ _ _,fun j ps u _ hu=>by simp at hu,Chg.refl _ _⟩
   case round =>
    obtain⟨k,rvv,pv,hk,rfl,hR6,hO6,HP6,hC6⟩:=hrel
    rename World=>w6
    have hy0 := znn k;have HR6:=zaa hR6;have HO6:=zaa hO6;have HC6:=zaa hC6;have z6:=hC6.size;have b6:b≠w4.heap.size:=by omega
    have B56:=zaa (show Below w4.heap.size w5 w6 from hC6.bel (by omega) (fun k hk q=>by omega));have d3:w6.cell? ⟨b,o+i*4+3,none⟩=some (.slice ra rl rc):=hC6.cell b6 D3.out;have F6:=zaa (hC6.row F5.out (by have:=F4.out.lt;omega));have y2:=F6.out.cell (j:=2) rfl;have lF:=F6.out.lt;have lb6:=zag d3;by_cases hlt2:k<rl
    ·obtain⟨ps,hps⟩:∃ ps,Vr[k]?=some ps:=⟨Vr[k]'(by rw[<- HRL.out];exact hlt2),xo _⟩;obtain⟨b',o',pa,pl,pc,hra,c0,hpl,hp2,hp3,hp5,hpin⟩:=HRS.out.2.2.2.2 k ps hps;have lb':=zag c0;have c0:w6.cell? ⟨b',o'+k,none⟩=some (.slice pa pl pc):=hC6.cell (by omega) (zab C5.out c0);have HPIN:=zaa (show PinsAt w6 pa ps from fun j p hp=>by
      obtain⟨pb,po,e,t0,t1,t2⟩:=hpin j p hp;have:=zag t0;exact⟨pb,po,e,hC6.cell (by omega) (zab C5.out t0),hC6.cell (by omega) (zab C5.out t1),hC6.cell (by omega) (zab C5.out t2)⟩)
     subst hra;have hy1:(k:Int)<(rl:Int):=by omega
     have HPL:=zaa hpl;have hpl2:pl<=2000000:=by omega
     have HPS:=zaa hps;have lb7:=zag c0;clear hR6 hO6 hC6 hps hpl hp2 hpin
     go_wp2_with fail
     have E7:=zaa (show RowIs (w6.alloc (.cells #[.slice none 0 0] 108)) w6.heap.size 108 [.slice none 0 0]from zal _ _);have hb7:=zaa (bel1 w6 (.cells #[.slice none 0 0] 108));have l7:=E7.out.lt;generalize w6.alloc (.cells #[.slice none 0 0] 108)=w7 at *;have p7:=zab hb7.out y2;have q7:=zab hb7.out d3;have r7:=zab hb7.out c0;have e7:w7.drew.cell? ⟨w6.heap.size,0,none⟩=some (.slice none 0 0):=E7.out.cell rfl;have HPN:=zaa (yaae (show PinsAt w7.drew pa ps from PinsAt.keep (Below.drew hb7.out) HPIN.out));have Y26:=zaa y2;have D36:=zaa d3;have C06:=zaa c0;clear y2 d3 c0;refine wp_region_held_drew (S:=fun w'=>w'.cell? ⟨w.heap.size,2,none⟩=some (.slice (some ⟨b,o,none⟩) vl vc)/\w'.cell? ⟨b,o+i*4+3,none⟩=some (.slice (some ⟨b',o',none⟩) rl rc)/\w'.cell? ⟨b',o'+k,none⟩=some (.slice pa pl pc)) (by kernel_rfl) ⟨p7,q7,r7⟩ (fun hHeld=>?_);refine wpAnyH_take (i:=0) (v:=?_) rfl (by kernel_rfl) (by kernel_rfl) (by kernel_rfl) (fun _ _ _ h=>h) (qi ⟨by rfl,?_⟩) (by assumption) ?_;rotate_left
     ·intro w9 hSw
      (try dsimp only at hSw)
      go_simp
      all_goals with_reducible rfl
     (try simp only[xy,xe,xj,xm,xh,xf,xg])
     refine wpAnyH_take (i:=2) (v:=?_) rfl (by kernel_rfl) (by kernel_rfl) (by kernel_rfl) (fun _ _ _ h=>h) (qi ⟨by rfl,?_⟩) (by assumption) ?_;rotate_left
     ·intro w9 hSw
      (try dsimp only at hSw)
      go_simp
      all_goals with_reducible rfl
     (try simp only[xy,xe,xj,xm,xh,xf,xg])
     refine wpAnyH_take (i:=3) (v:=?_) rfl (by kernel_rfl) (by kernel_rfl) (by kernel_rfl) (fun _ _ _ h=>h) (qi ⟨by rfl,?_⟩) (by assumption) ?_;rotate_left
     ·intro w9 hSw
      (try dsimp only at hSw)
      go_simp
      all_goals with_reducible rfl
     (try simp only[xy,xe,xj,xm,xh,xf,xg])
     refine wpAnyH_take (i:=4) (v:=?_) rfl (by kernel_rfl) (by kernel_rfl) (by kernel_rfl) (fun _ _ _ h=>h) (qi ⟨by rfl,?_⟩) (by assumption) ?_;rotate_left
     ·intro w9 hSw
      (try dsimp only at hSw)
      go_simp
      all_goals with_reducible rfl
     (try simp only[xy,xe,xj,xm,xh,xf,xg])
     refine wpAnyH_take (i:=5) (v:=?_) rfl (by kernel_rfl) (by kernel_rfl) (by kernel_rfl) (fun _ _ _ h=>h) (qi ⟨by rfl,?_⟩) (by assumption) ?_;rotate_left
     ·intro w9 hSw
      (try dsimp only at hSw)
      go_simp
      all_goals with_reducible rfl
     (try simp only[xy,xe,xj,xm,xh,xf,xg])
     refine wpAnyH_take (i:=6) (v:=?_) rfl (by kernel_rfl) (by kernel_rfl) (by kernel_rfl) (fun _ _ _ h=>h) (qi ⟨by rfl,?_⟩) (by assumption) ?_;rotate_left
     ·intro w9 hSw
      (try dsimp only at hSw)
      go_simp
      all_goals with_reducible rfl
     (try simp only[xy,xe,xj,xm,xh,xf,xg])
     refine wpAnyH_take (i:=7) (v:=?_) rfl (by kernel_rfl) (by kernel_rfl) (by kernel_rfl) (fun _ _ _ h=>h) (qi ⟨by rfl,?_⟩) (by assumption) ?_;rotate_left
     ·intro w9 hSw
      (try dsimp only at hSw)
      go_simp
      all_goals with_reducible rfl
     (try simp only[xy,xe,xj,xm,xh,xf,xg])
     refine wpAnyH_take (i:=8) (v:=?_) rfl (by kernel_rfl) (by kernel_rfl) (by kernel_rfl) (fun _ _ _ h=>h) (qi ⟨by rfl,?_⟩) (by assumption) ?_;rotate_left
     ·intro w9 hSw
      (try dsimp only at hSw)
      go_simp
      all_goals with_reducible rfl
     (try simp only[xy,xe,xj,xm,xh,xf,xg])
     refine wpAnyH_take (i:=9) (v:=?_) rfl (by kernel_rfl) (by kernel_rfl) (by kernel_rfl) (fun _ _ _ h=>h) (qi ⟨by rfl,?_⟩) (by assumption) ?_;rotate_left
     ·intro w9 hSw
      (try dsimp only at hSw)
      go_simp
      all_goals with_reducible rfl
     (try simp only[xy,xe,xj,xm,xh,xf,xg])
     refine wpAnyH_take (i:=10) (v:=?_) rfl (by kernel_rfl) (by kernel_rfl) (by kernel_rfl) (fun _ _ _ h=>h) (qi ⟨by rfl,?_⟩) (by assumption) ?_;rotate_left
     ·intro w9 hSw
      (try dsimp only at hSw)
      go_simp
      all_goals with_reducible rfl
     (try simp only[xy,xe,xj,xm,xh,xf,xg])
     refine wpAnyH_take (i:=11) (v:=?_) rfl (by kernel_rfl) (by kernel_rfl) (by kernel_rfl) (fun _ _ _ h=>h) (qi ⟨by rfl,?_⟩) (by assumption) ?_;rotate_left
     ·intro w9 hSw
      (try dsimp only at hSw)
      go_simp
      all_goals with_reducible rfl
     (try simp only[xy,xe,xj,xm,xh,xf,xg])
     refine wpAnyH_ready (rs:=[1]) (by kernel_rfl) (by simp) ?_;refine qu rfl (fun K hK=>?_) qx
     go_simp
     refine hK.out _ _ ⟨p7,q7,r7⟩ (fun hHeld=>?_);clear hK K
     (try simp only[xy,xe,xj,xm,xh,xf,xg])
     refine wpAnyH_ready (rs:=[12]) (by kernel_rfl) (by simp) ?_;refine qu rfl (fun K hK=>?_) qx;refine yac0 rfl _ _ _ rfl w5.heap.size 165 iP _ 3 24 Tryz.underlying106 HIP.out.1 HIP.out.2.1 HIP.out.2.2.1 HIP.out.2.2.2 rfl (by omega) rfl pa pl pc (ps.flatMap pinF) rfl (by rw[zov (f:=pinF) (k:=3) (fun _=>rfl),HPL.out]) HPN.out (zyu _) (by omega) (by omega) (show w5.heap.size<=w7.heap.size by omega) ?_;intro pvv w8 own8 gr8;obtain⟨pva,pvc,rfl,_⟩:=zdq own8;have E8:=zaa ((show RowIs w7.drew w6.heap.size 108 [.slice none 0 0]from E7.out).grown gr8 (by simp));have e8:=E8.out.cell (j:=0) rfl;have f8:=E8.out.frozen 0;have p8:=gr8.cell (show w7.drew.cell? _=_ from p7) (by simp);have q8:=gr8.cell (show w7.drew.cell? _=_ from q7) (by simp);have r8:=gr8.cell (show w7.drew.cell? _=_ from r7) (by simp);refine hK.out _ _ ⟨p8,q8,r8⟩ (fun hHeld=>?_);clear hK K
     (try simp only[xy,xe,xj,xm,xh,xf,xg])
     refine wpAnyH_take (i:=13) (v:=?_) rfl (by kernel_rfl) (by kernel_rfl) (by kernel_rfl) (fun _ _ _ h=>h) (qi ⟨by rfl,?_⟩) (by assumption) ?_;rotate_left
     ·intro w9 hSw
      (try dsimp only at hSw)
      go_simp
      all_goals with_reducible rfl
     (try simp only[xy,xe,xj,xm,xh,xf,xg])
     refine wpAnyH_ready (rs:=[14]) (by kernel_rfl) (by simp) ?_;refine qu rfl (fun K hK=>?_) qx
     go_simp
     have B69:=zaa (show Below w6.heap.size w6 (w8.setCell ⟨w6.heap.size,0,none⟩ (.slice pva pl pvc)) from(Below.grown (Below.drew hb7.out) gr8 (show w6.heap.size<=w7.heap.size by omega) (by simp)).setCell (p:=⟨w6.heap.size,0,none⟩) (qp _) _);have N9:=zaa (E8.out.set 0 (.slice pva pl pvc));have OP9:=zaa (((Chg.refl (·= w6.heap.size) w8).set (p:=⟨w6.heap.size,0,none⟩) (.inl rfl) (.slice pva pl pvc)).own own8 (zbw own8 E8.out (by decide)));refine hK.out _ _ ⟨zab B69.out Y26.out,zab B69.out D36.out,zab B69.out C06.out⟩ (fun hHeld=>?_);clear hK K hHeld;refine wpAnyH_done (by kernel_rfl) ?_ _;clear own8 gr8 E8 e8 f8 p8 q8 r8 p7 q7 r7 e7 hHeld;generalize w8.setCell ⟨w6.heap.size,0,none⟩ (.slice pva pl pvc)=w9 at *;have M9:=zaa (HR6.out.keep B69.out);have OR9:=zaa (zas HO6.out B69.out);have z9:=B69.out.size;have C9:=zaa (HC6.out.trans (Chg.of B69.out));have m3:=M9.out.cell (j:=3) rfl;have n0:=N9.out.cell (j:=0) rfl;have l9:=N9.out.lt;have hne:rvv.ownBlock≠some w4.heap.size:=fun e=>by have:=(xp OR9.out _ e).1;omega
     go_wp2_with (at_builtin;refine wpList_append_lies _ rfl _ _ _ rfl w5.heap.size 108 iR _ 1 24 Tryz.underlying71 HIR.out.1 HIR.out.2.1 HIR.out.2.2.1 HIR.out.2.2.2 rfl (by omega) rvv k _ rfl (OR9.out.alloc _) ⟨w9.heap.size,0,none⟩ 1 1 [.slice pva pl pvc] rfl rfl (qv (heap_alloc_new w9 _)) (by simp[ud]) (by omega) (by unfold maxLen;omega) (by omega) (by simp;omega) (w9.heap.size+1) (by simp) ?_;intro g2 cap2 w10 hown2 hgrow2 hat2 hlt9;have M10:=zaa ((M9.out.keep (bel1 w9 (.cells #[.slice pva pl pvc] 108))).grown hgrow2 hne);have q0:=M10.out.cell (j:=3) rfl;have q1:=M10.out.frozen 3)
     go_roundw
     case rel =>
      have hpk:pv.length=k:=by have:=HO6.out.1;omega
      have key:∀ (g:Nat) (cur:Array Value),w9.heap[g]?=some (.cells cur 165 (0,0))->(w10.setCell ⟨w4.heap.size,3,none⟩ (.slice (some ⟨g2,0,none⟩) (k+1) cap2)).heap[g]?=w9.heap[g]?:=fun g cur hc=>by
       have hl:=zey hc;rw[Below.heap_setCell _ _ _ _ (fun q=>?_),hgrow2.block g (by simp;omega) (fun q=>?_)]
       ·exact(bel1 w9 _).block g hl
       ·obtain⟨_,cur',q2⟩:=zie OR9.out q.symm;rw[hc]at q2;simp at q2
       ·have q:g=w4.heap.size:=q;subst q;have q2:=M9.out;unfold RowIs at q2;rw[hc]at q2;simp at q2
      refine⟨k+1,.slice (some ⟨g2,0,none⟩) (k+1) cap2,pv++[.slice pva pl pvc],by omega,by go_num,M10.out.set 3 _,?_,?_,?_⟩
      ·exact((Chg.refl (·= w4.heap.size) w10).set (p:=⟨w4.heap.size,3,none⟩) (.inl rfl) _).own hown2 (fun b hb e=>by have:=(xp hown2 b hb).1;omega)
      ·intro j ps' u hj hu;by_cases hjk:j<k
       ·rw[qk (by omega)]at hu;exact zc5 (zas (HP6.out j ps' u hj hu) B69.out) (fun g cur _ hc=>key g cur hc)
       ·have:=(xq.1 hu).1;have hjj:j=k:=by simp at this;omega
        subst hjj;rw[qj (by omega),hpk,uf]at hu;rw[HPS.out]at hj;cases hj;simp at hu;subst hu;rw[<- HPL.out];exact zc5 OP9.out (fun g cur _ hc=>key g cur hc)
      ·exact((C9.out.alloc _).grown hgrow2 (fun k hk=>.inr (xp OR9.out k hk).1)).set (p:=⟨w4.heap.size,3,none⟩) (.inl rfl) _
     case measure=>simp[intOf];omega
    ·obtain rfl:rl=k:=by omega
     obtain⟨rva,rvc,rfl,_⟩:=zdq HO6.out;have HR6b:=zaa (hC6.row (HR.out.keep C5.out) (by omega));have k2:=HR6b.out.cell (j:=2) rfl;have e0:=hR6.cell (j:=0) rfl;have e1:=hR6.cell (j:=1) rfl;have e2:=hR6.cell (j:=2) rfl;have e3:=hR6.cell (j:=3) rfl;have key:∀ (g:Nat) (cur:Array Value) (e:TypeId),e≠73->w4.heap[g]?=some (.cells cur e (0,0))->w6.heap[g]?=w4.heap[g]?:=fun g cur e he hc=>by
      have h1:=C5.out.block g (zey hc);rw[<- h1];exact zfb hC6 E5.out g cur e he (h1.trans hc)
     have KEY:=zaa key;have OV6:=zaa (show w6.ownsRow w3.heap.size 73 4 gv i (((f.vs.take i).zip rv).flatMap svF)from hC6.own (zas HO.out C5.out) (fun g hg q=>by have:=(xp HO.out g hg).2;omega));have l6:=HR6b.out.lt;have hne:gv.ownBlock≠some (w.heap.size+1+1):=fun e=>by have:=(xp HO.out _ e).1;omega
     clear hR6 hO6 hC6 key
     go_wp2_with (at_builtin;refine wpList_append_lies _ rfl _ _ _ rfl w3.heap.size 73 iV _ 4 48 Tryz.underlying24 HIV.out.1 HIV.out.2.1 HIV.out.2.2.1 HIV.out.2.2.2 rfl (by omega) gv i _ rfl (OV6.out.alloc _) ⟨w6.heap.size,0,none⟩ 1 1 [.int .i64 Vs,.int .i64 Vn,.int .i64 Vw,.slice rva rl rvc] rfl rfl (qv (heap_alloc_new w6 _)) (by simp[ud]) (by omega) (by unfold maxLen;omega) (by omega) (by simp;omega) (w6.heap.size+1) (by simp) ?_;intro g2 cap2 w7 hown2 hgrow2 hat2 hlt7;have M7:=zaa ((HR6b.out.keep (bel1 w6 (.cells #[.int .i64 Vs,.int .i64 Vn,.int .i64 Vw,.slice rva rl rvc] 73))).grown hgrow2 hne);have q0:=M7.out.cell (j:=2) rfl;have q1:=M7.out.frozen 2)
     go_roundw
     case rel =>
      have hlen:rv.length=i:=by have:=HT.out.len;rw[qn]at this;have:=HVL.out;omega
      have key7:∀ (g:Nat) (cur:Array Value) (e:TypeId),TwT e->w6.heap[g]?=some (.cells cur e (0,0))->(w7.setCell ⟨w.heap.size+1+1,2,none⟩ (.slice (some ⟨g2,0,none⟩) (i+1) cap2)).heap[g]?=w6.heap[g]?:=fun g cur e he hc=>by
       have hl:=zey hc;rw[Below.heap_setCell _ _ _ _ (fun q=>?_),hgrow2.block g (by simp;omega) (fun q=>?_)]
       ·exact(bel1 w6 _).block g hl
       ·obtain⟨_,cur',q2⟩:=zie OV6.out q.symm;rw[hc]at q2;have:e=73:=by simp at q2;exact q2.2
        unfold TwT at he;rw[this]at he
        revert he
        decide
       ·have q:g=w.heap.size+1+1:=q;subst q;have q2:=HR6b.out;unfold RowIs at q2;rw[hc]at q2;have:e=26:=by simp at q2;exact q2.2
        unfold TwT at he;rw[this]at he
        revert he
        decide
      have tne:∀ e,TwT e->e≠73:=fun e he q=>by
       unfold TwT at he;rw[q]at he
       revert he
       decide
      refine⟨i+1,.slice (some ⟨g2,0,none⟩) (i+1) cap2,rv++[.slice rva rl rvc],by omega,by go_num,M7.out.set 2 _,?_,?_,?_⟩
      ·have hz:((f.vs.take (i+1)).zip (rv++[.slice rva rl rvc])).flatMap svF=((f.vs.take i).zip rv).flatMap svF++[.int .i64 Vs,.int .i64 Vn,.int .i64 Vw,.slice rva rl rvc]:=by
        rw[qy,HV.out,Option.toList_some,List.zip_append (by rw[qn];have:=HVL.out;omega),List.flatMap_append];rfl
       rw[hz];exact((Chg.refl (·= w.heap.size+1+1) w7).set (p:=⟨w.heap.size+1+1,2,none⟩) (.inl rfl) _).own hown2 (fun b hb e=>by have:=(xp hown2 b hb).1;omega)
      ·refine⟨by rw[List.length_append,qn];have:=HVL.out;simp;omega,fun j v u hv hu=>?_⟩;by_cases hj:j<i
       ·rw[qk (by omega)]at hu;rw[qg (by omega)]at hv;refine RelT.to ((HT.out.rel j v u (by rw[qg hj];exact hv) hu).to (fun g cur e _ he hc=>KEY.out g cur e (tne e he) hc)) (fun g cur e _ he hc=>key7 g cur e he hc)
       ·have:=(xq.1 hu).1;have hjj:j=i:=by simp at this;omega
        subst hjj;rw[qj (by omega),hlen,uf]at hu;simp at hu;subst hu;rw[qg (by omega),HV.out]at hv;cases hv;exact RelT.to (RelT.mono (B:=w5.heap.size) ⟨pv,by rw[<- HRL.out];exact HO6.out,HP6.out⟩ (by omega)) (fun g cur e _ he hc=>key7 g cur e he hc)
      ·exact(((HC.out.trans (Chg.of (C5.out.trans (HC6.out.bel C5.out.size (fun k hk q=>by omega))))).alloc _).grown hgrow2 (fun k hk=>.inr (xp HO.out k hk).1)).set (p:=⟨w.heap.size+1+1,2,none⟩) (.inl rfl) _
     case measure=>simp[intOf];omega
  ·obtain rfl:vl=i:=by omega
   obtain⟨gva,gvc,rfl,_⟩:=zdq HO.out;have Z4:=zaa (hC.row Z3.out (by omega));have k0:=hR.cell (j:=0) rfl;have k1:=hR.cell (j:=1) rfl;have k2:=hR.cell (j:=2) rfl;have O24:=zaa (hC.own O2b.out (fun b hb q=>by have:=(xp O2b.out b hb).1;omega));have O34:=zaa (hC.own O3.out (fun b hb q=>by have:=(xp O3.out b hb).1;omega));clear hR hO hC
   go_wp2_with (refine zdd rfl 26 _ _ rfl (w.heap.size+1) [.slice gsa sl gsc,.slice gta tl gtc,.slice gva vl gvc] nil3 _ rfl rfl Z4.out rfl Tryz.infoFlt3 one3 ?_;intro w9 R9 C9;(try simp only[xy,xe,xj,xm,xh,xf,xg]))
   have o0:=R9.cell (j:=0) rfl;have o1:=R9.cell (j:=1) rfl;have o2:=R9.cell (j:=2) rfl;refine bodyPost_ret (v:=.agg #[.slice gsa sl gsc,.slice gta tl gtc,.slice gva vl gvc]) (by simp[results,Tryz.results21,go_sem,o0,o1,o2]) rfl ?_;have e1:=C9.own O24.out (fun b hb q=>by have:=(xp O24.out b hb).1;omega);have e2:=C9.own O34.out (fun b hb q=>by have:=(xp O34.out b hb).1;omega);have e3:=(C9.own HO.out (fun b hb q=>by have:=(xp HO.out b hb).1;omega)).mono (base':=w.heap.size+3) (by omega);have e4:=HT.out.to (W:=w9) (fun g cur e _ he hc=>zfb C9 Z4.out g cur e (fun q=>by
    unfold TwT at he;rw[q]at he
    revert he
    decide) hc)
   have hv:=HVL.out;rw[xv (by omega)]at e3 e4;have e4:TwF w9 (w.heap.size+3) f.vs rv:=⟨e4.len,fun i v u h1 h2=>(e4.rel i v u h1 h2).mono (by omega)⟩;rw[HSL.out]at e1;rw[HTL.out]at e2;rw[hv]at e3;obtain⟨sa',sc',ta',tc',va',vc',q1,q2,q3,hF⟩:=zxb HF.out e1 e2 e3 e4;refine⟨sa',sc',ta',tc',va',vc',?_,hF,B4.out.trans (C9.bel B4.out.size (fun k hk q=>by omega))⟩;rw[HSL.out,HTL.out,hv,q1,q2,q3]
theorem zio {f:zac}{ms:List (Int×Int)}(h:Sfe f ms):f.vs.length<=3/\1<=f.vs.length/\f.ts.length<=4/\f.ss.length<=8/\(∀ v∈f.vs,0<=v.size/\v.size<=3/\v.rels.length<=3/\∀ ps∈v.rels,ps.length<=4)/\∀ m∈ms,numB m.1 f.vs.length=true:=by
 have ho:=zb3 h.ob;refine⟨ho.vs3,ho.vs1,ho.ts4,ho.ss8,fun v hv=>?_,fun m hm=>?_⟩
 ·have h1:=ho.parts hv;have h2:=ho.svc v hv;unfold svcB numB at h2;simp only[xz,decide_eq_true_eq]at h2;refine⟨by omega,by omega,h1.2.1,fun ps hps=>?_⟩;have:=h1.2.2.2.2 ps hps;unfold za7 at this;rw[xz]at this;simpa using this.1
 ·obtain⟨j,hj⟩:=List.getElem?_of_mem hm;have hl:=(xq.1 hj).1;have:=h.rm j hl;unfold rmB at this;simp only[xz]at this;have e:mvAt ms j=m:=by unfold mvAt;rw[qf,hj];rfl
  rw[e]at this;exact this.1.1
theorem ztc (f:zac)(sa ta va:Option Addr)(sl sc tl tc vl vc:Nat)(ms:List (Int×Int))(ma:Option Addr)(mc:Nat)(w:World)(hf:FleetAt w sa sl sc ta tl tc va vl vc f)(hm:MvsAt w ma ms)(hS:Sfe f ms) :
  Calls Tryz.prog 71 #[.agg #[.slice sa sl sc,.slice ta tl tc,.slice va vl vc],.slice ma ms.length mc] w fun e W=>zl2 f ms.length ((tskN (lst0 f.vs) ms).flatMap tskF) (rstN f.ts) (if ms.length=0 then 3 else 1) w e W:=by
 obtain⟨h1,h2,h3,h4,h5,h6⟩:=zio hS;exact zuu f sa ta va ma sl sc tl tc vl vc ms.length mc _ _ _ w hf (by rw[hf.v1];exact h1) (by rw[hf.t1];exact h3) (by rw[hf.s1];exact h4) h5 fun W hb=>zvn f sa ta va sl sc tl tc vl vc ms ma mc W (hf.keep hb) (hm.keep hb) h1 h3 hS.l200 h6
theorem zux (ta:Value)(R st:Int)(v t s:Value):Tryz.prog.built 149 [(0,.agg (PlC ta R st v t s).toArray)]=some (PlC ta R st v t s).toArray:=by kernel_rfl
def ztv (f:zac)(ms:List (Int×Int))(w:World)(e:Ending)(W:World):Prop:=∃ r L,e=.returned (.tuple #[.pointer (some ⟨r,0,none⟩),.int .i64 0])/\RunE W L r (begP f ms)/\(∀ k,k<w.heap.size->L k=0)/\Below w.heap.size w W
theorem zmg (f:zac)(sa ta va:Option Addr)(sl sc tl tc vl vc:Nat)(ms:List (Int×Int))(ma:Option Addr)(mc:Nat)(w:World)(hf:FleetAt w sa sl sc ta tl tc va vl vc f)(hm:MvsAt w ma ms)(hS:Sfe f ms) :
  Calls Tryz.prog 27 #[.agg #[.slice sa sl sc,.slice ta tl tc,.slice va vl vc],.slice ma ms.length mc] w fun e W=>ztv f ms w e W:=by
 have hl:=hS.l200;have c1:=fun (W:World) (h:Below w.heap.size w W)=>zjc f sa ta va sl sc tl tc vl vc ms ma mc W (hf.keep h) (by omega) (hm.keep h);rw[zrn hS]at c1;have c2:=fun (W:World) (h:Below w.heap.size w W)=>ztc f sa ta va sl sc tl tc vl vc ms ma mc W (hf.keep h) (hm.keep h) hS;have hvs:=(zio hS).2.1;have b1:=fun (g n c:Nat) (v t s:Value)=>zux (.slice (some ⟨g,0,none⟩) n c) (rstN f.ts) (if ms.length=0 then 3 else 1) v t s;have HP:∀ (gt cap:Nat) (v t s:Value),PlC (.slice (some ⟨gt,0,none⟩) ms.length cap) (rstN f.ts) (if ms.length=0 then 3 else 1) v t s=RunC 0 (.slice (some ⟨gt,0,none⟩) ms.length cap) (begP f ms).c (.slice none 0 0) v t s:=fun _ _ _ _ _=>rfl;have HQ:=zaa HP;clear HP hf hm hS;have F0:=box3 w (.slice sa sl sc) (.slice ta tl tc) (.slice va vl vc) 26;have B0:=zaa (bel1 w (.cells #[.slice sa sl sc,.slice ta tl tc,.slice va vl vc] 26));generalize rstN f.ts=R at *;generalize (if ms.length=0 then (3:Int) else 1)=st at *;obtain⟨xs,hxs⟩:∃ xs,xs=(tskN (lst0 f.vs) ms).flatMap tskF:=⟨_,rfl⟩;rw[<- hxs]at c2;have HXS:=zaa hxs;clear hxs;obtain⟨n,hn⟩:∃ n,n=ms.length:=⟨_,rfl⟩;have HN:=zaa hn;rw[<- hn]at c1 c2 hl HQ ⊢;clear hn
 go_enter Tryz.func27,Tryz.ntmps27
 go_wp2_with (first
  |(go_at_call 25;refine(c1 _ B0.out).mono ?_;rintro e w1 ⟨rfl,hb1⟩;have f1:=zaq hb1 F0;have B1:=zaa (thn3 B0.out hb1))
  |(go_at_call 71;refine(c2 _ B1.out).mono ?_;rintro e w2 hP2;obtain⟨gt,cap,v,t,s,sv,rfl,o1,o2,o3,o4,o5,hb2⟩:=hP2;have B2:=zaa (thn3 B1.out hb2);have O1:=zaa o1;have O2:=zaa o2;have O3:=zaa o3;have O4:=zaa o4;have O5:=zaa o5;have hz2:=B1.out.size;clear o1 o2 o3 o4 o5)
  |(refine zsx rfl 149 _ rfl _ (by rw[Array.toList_map];rfl) _ (b1 gt n cap v t s) ?_;(try simp only[xy,xe,xj,xm,xh,xf,xg])))
 have hbA:=bel1 w2 (.cells (PlC (.slice (some ⟨gt,0,none⟩) n cap) R st v t s).toArray 149);have hrow:RowIs (w2.alloc (.cells (PlC (.slice (some ⟨gt,0,none⟩) n cap) R st v t s).toArray 149)) w2.heap.size 149 (PlC (.slice (some ⟨gt,0,none⟩) n cap) R st v t s):=zal _ _;have hrow:RowIs (w2.alloc (.cells (PlC (.slice (some ⟨gt,0,none⟩) n cap) R st v t s).toArray 149)) w2.heap.size 149 (RunC 0 (.slice (some ⟨gt,0,none⟩) ms.length cap) (begP f ms).c (.slice none 0 0) v t s):=by rw[<- HN.out,<- HQ.out gt cap v t s];exact hrow
 have hz3:=B2.out.size;have hF:BegF (w2.alloc (.cells (PlC (.slice (some ⟨gt,0,none⟩) n cap) R st v t s).toArray 149)) w.heap.size f ms gt cap v t s sv:=by
  refine⟨?_,O3.out.sl,(zas O2.out hbA).mono hz2,?_,?_,O3.out.dif,(zas O4.out hbA).mono hz2,(zas O5.out hbA).mono hz2⟩
  ·have h1:=(zas O1.out hbA).mono hz2;rw[HXS.out]at h1;rw[<- HN.out];exact h1
  ·exact fun i V q hV hq=>(zas (O3.out.ins i V q hV hq) hbA).mono hz2
  ·exact fun i V q hV hq=>((O3.out.rel i V q hV hq).to (fun g cur e _ _ hc=>hbA.block g (zey hc))).mono hz2
 obtain⟨hr1,hr2⟩:=yabq (r:=w2.heap.size) hF hvs hz3 hrow;refine bodyPost_ret (v:=.tuple #[.pointer (some ⟨w2.heap.size,0,none⟩),.int .i64 0]) (by simp[results,Tryz.results27,go_sem]) rfl ?_;exact⟨w2.heap.size,_,rfl,hr1,hr2,thn3 B2.out (bel1 w2 _)⟩
def staE (f:zac)(ms:List (Int×Int)):Int:=if (zbd f ms).2=0 then 14 else (zbd f ms).2
theorem ztw (f:zac)(sa ta va:Option Addr)(sl sc tl tc vl vc:Nat)(ms:List (Int×Int))(ma:Option Addr)(mc:Nat)(w:World)(hf:FleetAt w sa sl sc ta tl tc va vl vc f)(hm:MvsAt w ma ms)(hml:ms.length<=2000000)(hS:(zbd f ms).2≠0\/(zbd f ms).1<ms.length) :
  Calls Tryz.prog 27 #[.agg #[.slice sa sl sc,.slice ta tl tc,.slice va vl vc],.slice ma ms.length mc] w fun e W=>e=.returned (.tuple #[.pointer none,.int .i64 (staE f ms)])/\Below w.heap.size w W:=by
 have c1:=fun (W:World) (h:Below w.heap.size w W)=>zjc f sa ta va sl sc tl tc vl vc ms ma mc W (hf.keep h) hml (hm.keep h);unfold staE;clear hf hm;generalize (zbd f ms).1=x at *;generalize (zbd f ms).2=y at *;have B0:=zaa (bel1 w (.cells #[.slice sa sl sc,.slice ta tl tc,.slice va vl vc] 26));generalize ms.length=n at *;by_cases hy:y=0
 ·subst hy;have hx:x<(n:Int):=by omega
  rw[if_pos rfl]
  go_enter Tryz.func27,Tryz.ntmps27
  go_wp2_with (first
   |(go_at_call 25;refine(c1 _ B0.out).mono ?_;rintro e w1 ⟨rfl,hb1⟩;have B1:=zaa (thn3 B0.out hb1)))
  exact bodyPost_ret (v:=.tuple #[.pointer none,.int .i64 14]) (by simp[results,Tryz.results27,go_sem]) rfl ⟨rfl,B1.out⟩
 ·rw[if_neg hy]
  go_enter Tryz.func27,Tryz.ntmps27
  go_wp2_with (first
   |(go_at_call 25;refine(c1 _ B0.out).mono ?_;rintro e w1 ⟨rfl,hb1⟩;have B1:=zaa (thn3 B0.out hb1)))
  exact bodyPost_ret (v:=.tuple #[.pointer none,.int .i64 y]) (by simp[results,Tryz.results27,go_sem]) rfl ⟨rfl,B1.out⟩
theorem zr9 {f:zac}:(tckP (begP f [])).ms=[]:=by
 show (if actB (begP f []).c (0+1) then za8 [] (actM (begP f []).c (0+1)) else [])=[];have:actB (begP f []).c (0+1)=false:=rfl;rw[this];rfl
theorem zsa {f:zac}{m:Int×Int}{ms:List (Int×Int)}(h:Sfe f (m::ms)):(tckP (begP f (m::ms))).ms=[⟨1,1,m.1,0,m.2⟩]:=by
 obtain⟨hi,he⟩:=zjm h (Wrt f);obtain⟨C,hC⟩:∃ C,C=(begP f (m::ms)).c:=⟨_,rfl⟩;have hst:C.st=1:=by rw[hC];rfl
 have hwk:C.wk=false:=by rw[hC];rfl
 have hun:C.un=0:=by rw[hC];rfl
 have hpa:C.pa=false:=by rw[hC];rfl
 have hpos:C.pos=0:=by rw[hC];rfl
 have hnu:C.nu=0:=by rw[hC];rfl
 have hsh:=hi.sh;rw[<- hC]at hsh;have hov:zaj C=false:=by unfold zaj;rw[hst];rfl
 have hA:actA C 1=begC C:=by unfold actA;rw[if_pos ⟨hwk,by omega⟩]
 have hcb:=zf1 hsh hov;have hB:actB C 1=true:=by
  unfold actB;rw[hA,hpa,hov,hcb];rfl
 have ht0:C.ts[0]?=some (tskS (lstN (lst0 f.vs) ((m::ms).take 0)) m):=by rw[hC];exact zsh (j:=0) rfl
 have hcur:curT (begC C)=tskS (lst0 f.vs) m:=by
  have hn:numC (begC C)=0:=by unfold numC begC;simp only;rw[hst,hpos];rfl
  have hlen:=(xq.1 ht0).1;unfold curT;rw[hn];have e1:(begC C).ts=C.ts:=rfl;have e2:(begC C).st=C.st:=rfl;rw[e1,e2,hst,if_pos (by unfold numB;simp;omega),if_neg (by decide),qf,show (0:Int).toNat=0 from rfl,ht0];rfl
 have hfr:frst false false false (curT (begC C)).z=0:=by
  unfold cmdB at hcb;have hcb:=of_decide_eq_true hcb;have e:frst (begC C).a0 (begC C).a1 (begC C).a2 (curT (begC C)).z=frst false false false (curT (begC C)).z:=rfl;rw[e]at hcb;unfold frst at hcb ⊢;split
  ·rfl
  ·rename_i q;have q2:¬ 0<(curT (begC C)).z:=fun h=>q ⟨h,rfl⟩;rw[if_neg q,if_neg (fun h=>by have:=h.1;omega),if_neg (fun h=>by have:=h.1;omega)]at hcb;omega
 have hm0:∃ q:TskD,(lst0 f.vs).getD m.1.toNat tsk0=q/\q.s=m.1:=by
  have hmv:=(zio h).2.2.2.2.2 m (by simp);obtain⟨i,hi1,hi2⟩:=zgp hmv;have hv:f.vs[i]?=some f.vs[i]:=xo hi2;refine⟨_,rfl,?_⟩;rw[hi1,Int.toNat_natCast,qf,zkp hv];rfl
 obtain⟨q,hq1,hq2⟩:=hm0;show (if actB (begP f (m::ms)).c (0+1) then za8 [] (actM (begP f (m::ms)).c (0+1)) else [])=_;rw[<- hC,show (0:Int)+1=1 from rfl,hB];have hM:actM C 1=⟨1,1,m.1,0,m.2⟩:=by
  unfold actM;rw[hA,hpa,hov,show (begC C).wk=true from rfl];simp only[Bool.or_self,Bool.false_eq_true,if_false,if_true];unfold cmdM;rw[hcb];have e:frst (begC C).a0 (begC C).a1 (begC C).a2 (curT (begC C)).z=frst false false false (curT (begC C)).z:=rfl;rw[if_pos rfl,e,hfr,hcur];unfold tskS;rw[hq1,hq2];have:(begC C).nu=0:=hnu;rw[this];rfl
 rw[hM];rfl
theorem zmy {w1 w2 w3:World}{f:zac}{ms:List (Int×Int)}{r:Nat}{L:Nat->Nat}{B:Nat}(hB:B<=w1.heap.size)(hb:Below w1.heap.size w1 w2)(hlow:∀ k,k<w1.heap.size->L k=0)(ht:Turn w2 L r w3 (tckP (begP f ms))):Below B w1 w3/\∃ L',RunE w3 L' r (tckP (begP f ms)):=by
 obtain⟨L',h1,h2,h3⟩:=ht;refine⟨(hb.mono hB).trans (h3.bel (Nat.le_trans hB hb.size) (fun k hk q=>q (hlow k (by omega)))),L',h1⟩
theorem yab8 (f:zac)(sa ta va:Option Addr)(sl sc tl tc vl vc:Nat)(ms:List (Int×Int))(ma:Option Addr)(mc:Nat)(w:World)(hf:FleetAt w sa sl sc ta tl tc va vl vc f)(hm:MvsAt w ma ms)(hS:Sfe f ms) :
  Calls Tryz.prog 52 #[.agg #[.slice sa sl sc,.slice ta tl tc,.slice va vl vc],.slice ma ms.length mc] w fun e W=>e=.returned (.bool true)/\Below w.heap.size w W:=by
 obtain⟨hbi,hbe⟩:=zjm hS (Wrt f);have hl:=hS.l200;have hto:=zlu hbi (zmx hS) (by omega);have c1:=fun (W:World) (h:Below w.heap.size w W)=>ziz f sa ta va sl sc tl tc vl vc W (hf.keep h);have c2:=fun (sa' ta' va':Option Addr) (sc' tc' vc':Nat) (W:World) (h:Below w.heap.size w W) (hF:FleetAt W sa' f.ss.length sc' ta' f.ts.length tc' va' f.vs.length vc' f)=>zmg f sa' ta' va' f.ss.length sc' f.ts.length tc' f.vs.length vc' ms ma mc W hF (hm.keep h) hS;have c3:=fun (W:World) (L:Nat->Nat) (r:Nat) (h:RunE W L r (begP f ms))=>zk9 hto h;have hlen:(tckP (begP f ms)).ms.length<=40:=by
  cases ms with
  |nil=>rw[zr9];simp
  |cons m l=>rw[zsa hS];simp
 have c4:=fun (W:World) (L:Nat->Nat) (r:Nat) (h:RunE W L r (tckP (begP f ms)))=>zgv hlen h;have HM:=zaa hm;have F0:=box3 w (.slice sa sl sc) (.slice ta tl tc) (.slice va vl vc) 26;have B0:=zaa (bel1 w (.cells #[.slice sa sl sc,.slice ta tl tc,.slice va vl vc] 26));cases ms with
 |nil =>
  rw[zr9]at c4;clear hS hbi hbe hto hlen hm hf;have hz:w.heap.size<=w.heap.size+1:=by omega
  simp only[ua]at c2 c4 ⊢
  go_enter Tryz.func52,Tryz.ntmps52
  go_wp2_with (first
   |(go_at_call 21;refine(c1 _ B0.out).mono ?_;rintro e w1 hT;obtain⟨sa',sc',ta',tc',va',vc',rfl,hF,hb1⟩:=hT;have HF1:=zaa hF;have B1:=zaa (thn3 B0.out hb1);clear hF)
   |(go_at_call 27;refine(c2 sa' ta' va' sc' tc' vc' _ B1.out HF1.out).mono ?_;rintro e w2 hP;obtain⟨r,L,rfl,hR,hlow,hb2⟩:=hP;have HR:=zaa hR;have HLO:=zaa hlow;clear hR hlow)
   |(go_at_call 55;refine(c3 _ L r HR.out).mono ?_;rintro e w3 ⟨rfl,ht⟩;obtain⟨hb3,L',hR3⟩:=zmy (qp _) hb2 HLO.out ht;have HR3:=zaa hR3;have B3:=zaa (thn3 B1.out hb3);clear hR3 ht)
   |(go_at_call 53;refine(c4 _ L' r HR3.out).mono ?_;rintro e w4 ⟨v,rfl,ho,hb4⟩;obtain⟨ad,cp,rfl,_⟩:=zdq ho;have B4:=zaa (thn3 B3.out hb4);clear ho))
  go_ret;exact⟨rfl,B4.out⟩
 |cons m l =>
  rw[zsa hS]at c4;obtain⟨b,o,hma,d0,d1⟩:=hm 0 m rfl;subst hma;simp only[Nat.zero_mul,Nat.add_zero]at d0 d1;obtain⟨mx,my⟩:=m;simp only at d0 d1;clear hS hbi hbe hto hlen hm hf;obtain⟨n,hn⟩:∃ n,n=((mx,my)::l).length:=⟨_,rfl⟩;have hn0:0<n:=by rw[hn];simp
  have hn1:(0:Int)<(n:Int):=by omega
  rw[<- hn]at c2 ⊢;clear hn;have e1:(mx == mx)=true:=by simp
  have e2:decide (mx=mx)=true:=by simp
  have e3:(my == my)=true:=by simp
  have e4:decide (my=my)=true:=by simp
  have lb:=zag d0
  go_enter Tryz.func52,Tryz.ntmps52
  go_wp2_with (first
   |(go_at_call 21;refine(c1 _ B0.out).mono ?_;rintro e w1 hT;obtain⟨sa',sc',ta',tc',va',vc',rfl,hF,hb1⟩:=hT;have HF1:=zaa hF;have B1:=zaa (thn3 B0.out hb1);clear hF)
   |(go_at_call 27;refine(c2 sa' ta' va' sc' tc' vc' _ B1.out HF1.out).mono ?_;rintro e w2 hP;obtain⟨r,L,rfl,hR,hlow,hb2⟩:=hP;have HR:=zaa hR;have HLO:=zaa hlow;clear hR hlow)
   |(go_at_call 55;refine(c3 _ L r HR.out).mono ?_;rintro e w3 ⟨rfl,ht⟩;obtain⟨hb3,L',hR3⟩:=zmy (qp _) hb2 HLO.out ht;have HR3:=zaa hR3;have B3:=zaa (thn3 B1.out hb3);clear hR3 ht)
   |(go_at_call 53;refine(c4 _ L' r HR3.out).mono ?_;rintro e w4 ⟨v,rfl,ho,hb4⟩;obtain⟨ad,cp,rfl,_,hcs⟩:=zbb ho (by omega);obtain⟨gb,rfl,_,k0⟩:=hcs 0 _ rfl;obtain⟨gb1,q1,_,k1⟩:=hcs 1 _ rfl;obtain⟨gb2,q2,_,k2⟩:=hcs 2 _ rfl;obtain⟨gb3,q3,_,k3⟩:=hcs 3 _ rfl;obtain⟨gb4,q4,_,k4⟩:=hcs 4 _ rfl;cases q1;cases q2;cases q3;cases q4;have B4:=zaa (thn3 B3.out hb4);have d40:=zab B4.out d0;have d41:=zab B4.out d1;have lb4:=zag d40;have lg4:=zag k0;clear ho hcs))
  go_quiet (fail)
  go_wp2_with fail
  go_ret;exact⟨rfl,below_drewN (thn3 B4.out (bel1 _ _)) _⟩
def bok0 (f:zac)(ms:List (Int×Int))(tale:Bool):zav:=⟨f,ms,tale,begP f ms,0,[],false⟩
def zi9 (f:zac)(ms:List (Int×Int))(tale:Bool)(w:World)(e:Ending)(W:World):Prop:=∃ gb r L w0,e=.returned (.pointer (some ⟨gb,0,none⟩))/\BookE w0 W L gb r (bok0 f ms tale)/\w0.heap.size<=gb/\Below w.heap.size w w0
theorem zm0 {w0 w5 W:World}{L:Nat->Nat}{r:Nat}{f:zac}{ms:List (Int×Int)}{tale:Bool}{sa ta va ma:Option Addr}{sl sc tl tc vl vc mc:Nat}(hlow:∀ k,k<w0.heap.size->L k=0)(hb:Below w0.heap.size w0 w5)(hR:RunE w5 L r (begP f ms))(hF:FleetAt w0 sa sl sc ta tl tc va vl vc f)(hM:MvsAt w0 ma ms)(hbW:Below w5.heap.size w5 W)
  (hrow:RowIs W w5.heap.size 70 [.slice sa sl sc,.slice ta tl tc,.slice va vl vc,.slice ma ms.length mc,.bool tale,.pointer (some ⟨r,0,none⟩),.int .i64 0,.slice none 0 0,.bool false]):BookE w0 W L w5.heap.size r (bok0 f ms tale):=by
 have hfr:L w5.heap.size=0:=by
  obtain⟨gt,tc',m,gv,vc',t,s,sv,tv,h⟩:=hR;exact h.fr _ (qp _)
 exact⟨sa,ta,va,ma,sl,sc,tl,tc,vl,vc,mc,.slice none 0 0,hrow,hfr,hR.keep hbW,hlow,hb.trans (hbW.mono hb.size),hF,hM,qm _ _ _ _,fun k hk=>by simp[Value.ownBlock]at hk⟩
theorem zut {f:zac}{ms:List (Int×Int)}{tale:Bool}:∀ (s:Nat) v,(bok0 f ms tale).f.vs[s]?=some v->∀ i:Nat,(i:Int)<v.size->hasB (bok0 f ms tale).P.vs s i=true/\(insG (bok0 f ms tale).P.vs s i).r=zfv (bok0 f ms tale) false s v:=fun s v hv i hi=>by
 refine⟨zhn.2 ⟨s,v,rfl,hv,by omega,hi⟩,?_⟩;have hv:f.vs[s]?=some v:=hv;show (insG (begP f ms).vs s i).r=_;rw[zjl hv (by omega) hi];rfl
theorem zmz (f:zac)(sa ta va:Option Addr)(sl sc tl tc vl vc:Nat)(ms:List (Int×Int))(ma:Option Addr)(mc:Nat)(tale:Bool)(w:World)(hf:FleetAt w sa sl sc ta tl tc va vl vc f)(hm:MvsAt w ma ms)(hS:Sfe f ms) :
  Calls Tryz.prog 22 #[.agg #[.slice sa sl sc,.slice ta tl tc,.slice va vl vc],.slice ma ms.length mc,.bool tale] w fun e W=>zi9 f ms tale w e W:=by
 have hl:=hS.l200;obtain⟨v3,_,_,_,hsz,_⟩:=zio hS;have c0:=fun (W:World) (h:Below w.heap.size w W)=>yab8 f sa ta va sl sc tl tc vl vc ms ma mc W (hf.keep h) (hm.keep h) hS;have c1:=fun (W:World) (h:Below w.heap.size w W)=>ziz f sa ta va sl sc tl tc vl vc W (hf.keep h);have c2:=fun (sa' ta' va':Option Addr) (sc' tc' vc':Nat) (W:World) (h:Below w.heap.size w W) (hF:FleetAt W sa' f.ss.length sc' ta' f.ts.length tc' va' f.vs.length vc' f)=>zmg f sa' ta' va' f.ss.length sc' f.ts.length tc' f.vs.length vc' ms ma mc W hF (hm.keep h) hS;have c3:=fun (W:World) (L:Nat->Nat) (r:Nat) (h:RunE W L r (begP f ms))=>zje h;have c4:=fun (W:World) (L:Nat->Nat) (r:Nat) (h:RunE W L r (begP f ms))=>zgv (P:=begP f ms) (by show 0<=40;omega) h;have c5:=fun (w0 W:World) (L:Nat->Nat) (gb r:Nat) (h:BookE w0 W L gb r (bok0 f ms tale))=>zm1 (b:=bok0 f ms tale) false (by show f.vs.length<=2000000;omega) (by show ms.length<=2000000;omega) (fun v hv=>by have:=hsz v hv;omega) zut h;have eP:(begP f ms).c.st=(if ms.length=0 then 3 else 1)/\(begP f ms).c.pos=0/\(begP f ms).ti=0/\(begP f ms).c.nu=0/\(begP f ms).c.wk=false/\(begP f ms).c.pa=false/\(begP f ms).ms=[]:=⟨rfl,rfl,rfl,rfl,rfl,rfl,rfl⟩;obtain⟨q1,q2,q3,q4,q5,q6,q7⟩:=eP;simp only[q1,q2,q3,q4,q5,q6]at c3;simp only[q7,ua,List.flatMap_nil]at c4;have HF:=zaa hf;have HM:=zaa hm;have F0:=box3 w (.slice sa sl sc) (.slice ta tl tc) (.slice va vl vc) 26;have B0:=zaa (bel1 w (.cells #[.slice sa sl sc,.slice ta tl tc,.slice va vl vc] 26));clear hf hm hS hsz v3 q1 q2 q3 q4 q5 q6 q7;obtain⟨n,hn⟩:∃ n,n=ms.length:=⟨_,rfl⟩;have HN:=zaa hn;rw[<- hn]at c0 c2 c3 ⊢;clear hn hl;have hn0 := znn n;by_cases hz:n=0
 ·subst hz;rw[if_pos rfl]at c3
  go_enter Tryz.func22,Tryz.ntmps22
  go_wp2_with (first
   |(go_at_call 52;refine(c0 _ B0.out).mono ?_;rintro e wa ⟨rfl,hba⟩;have BA:=zaa (thn3 B0.out hba);have fa:=zaq hba F0)
   |(go_at_call 21;refine(c1 _ BA.out).mono ?_;rintro e w1 hT;obtain⟨sa',sc',ta',tc',va',vc',rfl,hF,hb1⟩:=hT;have HF1:=zaa hF;have B1:=zaa (thn3 BA.out hb1);have f1:=zaq hb1 fa;clear hF)
   |(go_at_call 27;refine(c2 sa' ta' va' sc' tc' vc' _ B1.out HF1.out).mono ?_;rintro e w2 hP;obtain⟨r,L,rfl,hR,hlow,hb2⟩:=hP;have HR:=zaa hR;have HLO:=zaa hlow;have f2:=zaq hb2 f1;clear hR hlow)
   |(go_at_call 36;refine(c3 _ L r HR.out).mono ?_;rintro e w3 ⟨rfl,hb3⟩;have B23:=zaa (thn3 hb3 (bel1 w3 (.cells #[.int .i64 3,.int .i64 0,.int .i64 0,.int .i64 0,.bool false,.bool false] 87)));have f3:=zaq B23.out f2;have S3:=zaa (show RowIs (w3.alloc (.cells #[.int .i64 3,.int .i64 0,.int .i64 0,.int .i64 0,.bool false,.bool false] 87)) w3.heap.size 87 [.int .i64 3,.int .i64 0,.int .i64 0,.int .i64 0,.bool false,.bool false]from zal _ _))
   |(go_at_call 53;refine(c4 _ L r (HR.out.keep B23.out)).mono ?_;rintro e w4 ⟨v,rfl,ho,hb4⟩;obtain⟨ad,cp,rfl,_⟩:=zdq ho;have B24:=zaa (thn3 B23.out hb4);have f4:=zaq hb4 f3;have S4:=zaa (S3.out.keep hb4);have s0:=S4.out.cell (j:=0) rfl;have s1:=S4.out.cell (j:=1) rfl;have s2:=S4.out.cell (j:=2) rfl;have s3:=S4.out.cell (j:=3) rfl;have s4:=S4.out.cell (j:=4) rfl;have s5:=S4.out.cell (j:=5) rfl;have E4:=zaa (zm0 (tale:=tale) (mc:=mc) HLO.out (thn3 hb2 B24.out) (HR.out.keep B24.out) (HF.out.keep B1.out) (HM.out.keep B1.out) (bel1 w4 _) (by rw[<- HN.out];exact zal w4 _));clear ho)
   |(go_at_call 54;refine(c5 _ _ L _ r E4.out).mono ?_;rintro e w5 ⟨rfl,hb5⟩))
  go_ret;exact⟨_,r,L,_,rfl,E4.out.keep hb5,by have:=(thn3 hb2 B24.out).size;omega,B1.out⟩
 ·rw[if_neg hz]at c3;have hn1:(0:Int)<(n:Int):=by omega
  go_enter Tryz.func22,Tryz.ntmps22
  go_wp2_with (first
   |(go_at_call 52;refine(c0 _ B0.out).mono ?_;rintro e wa ⟨rfl,hba⟩;have BA:=zaa (thn3 B0.out hba);have fa:=zaq hba F0)
   |(go_at_call 21;refine(c1 _ BA.out).mono ?_;rintro e w1 hT;obtain⟨sa',sc',ta',tc',va',vc',rfl,hF,hb1⟩:=hT;have HF1:=zaa hF;have B1:=zaa (thn3 BA.out hb1);have f1:=zaq hb1 fa;clear hF)
   |(go_at_call 27;refine(c2 sa' ta' va' sc' tc' vc' _ B1.out HF1.out).mono ?_;rintro e w2 hP;obtain⟨r,L,rfl,hR,hlow,hb2⟩:=hP;have HR:=zaa hR;have HLO:=zaa hlow;have f2:=zaq hb2 f1;clear hR hlow)
   |(go_at_call 36;refine(c3 _ L r HR.out).mono ?_;rintro e w3 ⟨rfl,hb3⟩;have B23:=zaa (thn3 hb3 (bel1 w3 (.cells #[.int .i64 1,.int .i64 0,.int .i64 0,.int .i64 0,.bool false,.bool false] 87)));have f3:=zaq B23.out f2;have S3:=zaa (show RowIs (w3.alloc (.cells #[.int .i64 1,.int .i64 0,.int .i64 0,.int .i64 0,.bool false,.bool false] 87)) w3.heap.size 87 [.int .i64 1,.int .i64 0,.int .i64 0,.int .i64 0,.bool false,.bool false]from zal _ _))
   |(go_at_call 53;refine(c4 _ L r (HR.out.keep B23.out)).mono ?_;rintro e w4 ⟨v,rfl,ho,hb4⟩;obtain⟨ad,cp,rfl,_⟩:=zdq ho;have B24:=zaa (thn3 B23.out hb4);have f4:=zaq hb4 f3;have S4:=zaa (S3.out.keep hb4);have s0:=S4.out.cell (j:=0) rfl;have s1:=S4.out.cell (j:=1) rfl;have s2:=S4.out.cell (j:=2) rfl;have s3:=S4.out.cell (j:=3) rfl;have s4:=S4.out.cell (j:=4) rfl;have s5:=S4.out.cell (j:=5) rfl;have E4:=zaa (zm0 (tale:=tale) (mc:=mc) HLO.out (thn3 hb2 B24.out) (HR.out.keep B24.out) (HF.out.keep B1.out) (HM.out.keep B1.out) (bel1 w4 _) (by rw[<- HN.out];exact zal w4 _));clear ho)
   |(go_at_call 54;refine(c5 _ _ L _ r E4.out).mono ?_;rintro e w5 ⟨rfl,hb5⟩))
  go_ret;exact⟨_,r,L,_,rfl,E4.out.keep hb5,by have:=(thn3 hb2 B24.out).size;omega,B1.out⟩
theorem zz7 {ns nt:Nat}{p:PinD}(h:p.t<0\/(nt:Int)<=p.t\/p.w < -1\/(ns:Int)<=p.w\/p.r < -1\/(ns:Int)<=p.r):pinB ns nt p=false:=by
 unfold pinB numB;rw[qh];intro hc;simp at hc;omega
theorem zz8 {ns nt:Nat}{p:PinD}(h1:0<=p.t)(h2:p.t<nt)(h3:-1<=p.w)(h4:p.w<ns)(h5:-1<=p.r)(h6:p.r<ns):pinB ns nt p=true:=by
 unfold pinB numB;simp;omega
theorem yadg {ps:List PinD}{j:Nat}{q:PinD}{x:Int}(hq:ps[j]?=some q):(ps.take (j+1)).any (fun q=>q.t == x)=((ps.take j).any (fun q=>q.t == x)||(q.t == x)):=by
 rw[qy,hq,List.any_append];simp
theorem yaab (ns nt:Nat)(ps:List PinD)(hns:ns<=2000000)(hnt:nt<=2000000)(w:World)(a:Option Addr)(cap:Nat)(hl:ps.length<=2000000)(hp:PinsAt w a ps) :
  Calls Tryz.prog 132 #[.slice a ps.length cap,.int .i64 nt,.int .i64 ns] w fun e w'=>e=.returned (.bool (za7 ns nt ps))/\Below w.heap.size w w':=by
 obtain⟨R,hR⟩:∃ R,R=za7 ns nt ps:=⟨_,rfl⟩;rw[<- hR];by_cases h4:ps.length<=4
 ·have HR:Hid (R=(ue ps.length).all (pinK ns nt ps)):=by show _=_;rw[hR];unfold za7;rw[decide_eq_true h4];rfl
  clear hR
  go_enter Tryz.func132,Tryz.ntmps132
  go_wp2_with fail
  go_loopw [7] (fun vi wr=>∃ i:Nat,i<=ps.length/\vi=.int .i64 i/\Hid ((ue i).all (pinK ns nt ps)=true)/\Below w.heap.size w wr) (fun i _=>ps.length-(intOf i).toNat)
  case atStart=>exact⟨0,qe _,rfl,(by show _=_;rfl),Below.refl _ _⟩
  case round =>
   obtain⟨i,hi,rfl,hn,hb⟩:=hrel
   rename World=>w5
   have hx0 := znn i;by_cases hlt:i<ps.length
   ·obtain⟨p,hpi⟩:∃ p,ps[i]?=some p:=⟨ps[i],xo hlt⟩;obtain⟨b,o,rfl,c0,c1,c2⟩:=hp i p hpi;have c0:=zab hb c0;have c1:=zab hb c1;have c2:=zab hb c2;have hbl:=zag c0;have hx1:(i:Int)<(ps.length:Int):=by omega
    have hK:pinK ns nt ps i=(pinB ns nt p&&!((ps.take i).any fun q=>q.t == p.t)):=by unfold pinK;rw[hpi]
    have hno:pinK ns nt ps i=false->R=false:=fun h=>by rw[HR.out];exact zmt hlt h
    have HYES:=(zaa (fun (h:pinK ns nt ps i=true)=>show (ue (i+1)).all (pinK ns nt ps)=true by rw[zms,hn.out,h];rfl));have e0:=box3 w5 (.int .i64 p.t) (.int .i64 p.w) (.int .i64 p.r) 165;have hB5:=thn3 hb (bel1 w5 (.cells #[.int .i64 p.t,.int .i64 p.w,.int .i64 p.r] 165));by_cases hbad:p.t<0\/(nt:Int)<=p.t\/p.w < -1\/(ns:Int)<=p.w\/p.r < -1\/(ns:Int)<=p.r
    ·have hR1:R=false:=hno (by rw[hK,zz7 hbad];rfl);clear hK hpi hn HR hp hno HYES;subst hR1;obtain⟨x,y,z⟩:=p;simp only at c0 c1 c2 hbad e0 hB5
     go_wp2_with fail
     all_goals first|(go_ret;exact⟨rfl,hB5⟩)|(exfalso;omega)
    ·have hP:pinB ns nt p=true:=zz8 (by omega) (by omega) (by omega) (by omega) (by omega) (by omega);rw[hP,qd]at hK;obtain⟨g1,g2,g3,g4,g5,g6⟩:0<=p.t/\p.t<(nt:Int)/\-1<=p.w/\p.w<(ns:Int)/\-1<=p.r/\p.r<(ns:Int):=by omega
     have HK:= zaa hK;have HNO:= zaa hno;have HP:= zaa hp;clear hK hn hno hP hbad hpi;obtain⟨x,y,z⟩:=p;simp only at c0 c1 c2 e0 hB5 HK g1 g2 g3 g4 g5 g6
     go_wp2_with fail
     all_goals first|(exfalso;omega)|skip
     go_loopw [9] (fun vj wr=>∃ j:Nat,j<=i/\vj=.int .i64 j/\Hid ((ps.take j).any (fun q=>q.t == x)=false)/\Below (w5.alloc (.cells #[.int .i64 x,.int .i64 y,.int .i64 z] 165)).heap.size (w5.alloc (.cells #[.int .i64 x,.int .i64 y,.int .i64 z] 165)) wr) (fun j _=>i-(intOf j).toNat)
     case atStart=>exact⟨0,qe _,rfl,rfl,Below.refl _ _⟩
     case round =>
      obtain⟨j,hj,rfl,hany,hb6⟩:=hrel
      rename World=>w6
      obtain⟨e60,e61,e62⟩:=zaq hb6 e0;have l6:=zag e60;have hB6:=thn3 hB5 hb6;have hy0 := znn j;by_cases hlj:j<i
      ·obtain⟨q,hq⟩:∃ q,ps[j]?=some q:=⟨ps[j]'(by omega),xo _⟩;obtain⟨b',o',hbb,q0,_,_⟩:=HP.out j q hq;cases hbb;have q0:=zab hB6 q0;have lq:=zag q0;have hy1:(j:Int)<(ps.length:Int):=by omega
       have hy2:(j:Int)<(i:Int):=by omega
       have hta:=yadg (x:=x) hq;by_cases hqx:q.t=x
       ·have hR1:R=false:=HNO.out (by
         rw[HK.out];have:(ps.take i).any (fun q=>q.t == x)=true:=List.any_eq_true.2 ⟨q,qq (by rw[List.getElem?_take,if_pos hlj];exact hq),by simp[hqx]⟩;rw[this];rfl)
        have d1:(q.t == x)=true:=by simp[hqx]
        have d2:(q.t != x)=false:=by simp[hqx]
        have d3:decide (q.t=x)=true:=by simp[hqx]
        clear HR HNO HK HYES hqx hta hany hq;subst hR1;generalize q.t=qt at q0 d1 d2 d3
        go_wp2_with fail
        go_quiet (fail)
        go_wp2_with fail
        go_ret;exact⟨rfl,below_drewN hB6 _⟩
       ·have d1:(q.t == x)=false:=by simp[hqx]
        have d2:(q.t != x)=true:=by simp[hqx]
        have d3:decide (q.t=x)=false:=by simp[hqx]
        rw[hany.out,d1]at hta;have HTA:= zaa hta;clear hqx hta hany hq;generalize q.t=qt at q0 d1 d2 d3
        go_wp2_with fail
        go_quiet (fail)
        go_wp2_with fail
        go_roundw
        case rel=>exact⟨j+1,by omega,by go_num,HTA,below_drewN hb6 _⟩
        case measure=>simp[intOf];omega
      ·obtain rfl:i=j:=by omega
       have HY:=(zaa (HYES.out (by rw[HK.out,hany.out];rfl)));clear hany
       go_wp2_with fail
       go_roundw
       case rel=>exact⟨i+1,by omega,by go_num,HY,hB6⟩
       case measure=>simp[intOf];omega
   ·have hR1:R=true:=by rw[HR.out,<- hn.out,show i=ps.length by omega]
    clear HR hn;subst hR1
    go_wp2_with fail
    go_ret;exact⟨rfl,hb⟩
 ·have hR1:R=false:=by rw[hR];unfold za7;rw[decide_eq_false h4];rfl
  clear hR;subst hR1
  go_enter Tryz.func132,Tryz.ntmps132
  go_wp2_with fail
  go_ret;exact⟨rfl,Below.refl _ _⟩
theorem yac5 {ns nt:Nat}{v:SvcD}(h:v.size<1\/3<v.size\/3<(v.rels.length:Int)\/v.now<0\/(v.rels.length:Int)<=v.now\/v.want<0\/(v.rels.length:Int)<=v.want):svcB ns nt v=false:=by
 unfold svcB numB;rw[qh];intro hc;simp only[xz,decide_eq_true_eq]at hc;omega
theorem yac6 {ns nt:Nat}{v:SvcD}(h:¬ (v.size<1\/3<v.size\/3<(v.rels.length:Int)\/v.now<0\/(v.rels.length:Int)<=v.now\/v.want<0\/(v.rels.length:Int)<=v.want)):svcB ns nt v=v.rels.all (za7 ns nt):=by
 unfold svcB numB;rw[decide_eq_true (by omega),decide_eq_true (by omega),decide_eq_true (by omega),decide_eq_true (by omega),decide_eq_true (by omega),decide_eq_true (by omega),decide_eq_true (by omega),decide_eq_true (by omega)];rfl
theorem zye (ns nt:Nat)(v:SvcD)(sa ta va:Option Addr)(sc tc vl vc:Nat)(hns:ns<=2000000)(hnt:nt<=2000000)(w:World)(ra:Option Addr)(rl rc:Nat)(hp:RelSl PinSl w ra rl rc v.rels) :
  Calls Tryz.prog 70 #[.agg #[.slice sa ns sc,.slice ta nt tc,.slice va vl vc],.agg #[.int .i64 v.size,.int .i64 v.now,.int .i64 v.want,.slice ra rl rc]] w fun e w'=>e=.returned (.bool (svcB ns nt v))/\Below w.heap.size w w':=by
 obtain⟨R,hR⟩:∃ R,R=svcB ns nt v:=⟨_,rfl⟩;rw[<- hR];obtain⟨sz,nw,wn,rels⟩:=v;simp only at hp ⊢;obtain⟨rfl,hl,hlc,hc9,hp⟩:=hp;have e0:=new3 (.cells #[.int .i64 sz,.int .i64 nw,.int .i64 wn,.slice ra rels.length rc] 73) (box3 w (.slice sa ns sc) (.slice ta nt tc) (.slice va vl vc) 26);have hbx:Below w.heap.size w ((w.alloc (.cells #[.slice sa ns sc,.slice ta nt tc,.slice va vl vc] 26)).alloc (.cells #[.int .i64 sz,.int .i64 nw,.int .i64 wn,.slice ra rels.length rc] 73)):=thn3 (bel1 _ _) (bel1 _ _);have s0:RowIs ((w.alloc (.cells #[.slice sa ns sc,.slice ta nt tc,.slice va vl vc] 26)).alloc (.cells #[.int .i64 sz,.int .i64 nw,.int .i64 wn,.slice ra rels.length rc] 73)) (w.heap.size+1) 73 [.int .i64 sz,.int .i64 nw,.int .i64 wn,.slice ra rels.length rc]:=by
  have:=heap_alloc_new (w.alloc (.cells #[.slice sa ns sc,.slice ta nt tc,.slice va vl vc] 26)) (.cells #[.int .i64 sz,.int .i64 nw,.int .i64 wn,.slice ra rels.length rc] 73);rw[show (w.alloc (.cells #[.slice sa ns sc,.slice ta nt tc,.slice va vl vc] 26)).heap.size=w.heap.size+1 by simp]at this;exact this
 by_cases hbad:sz<1\/3<sz\/3<(rels.length:Int)\/nw<0\/(rels.length:Int)<=nw\/wn<0\/(rels.length:Int)<=wn
 ·have hR1:R=false:=by rw[hR];exact yac5 hbad
  clear hR hp;subst hR1
  go_enter Tryz.func70,Tryz.ntmps70
  go_wp2_with fail
  all_goals first|(go_ret;exact⟨rfl,hbx⟩)|(exfalso;omega)
 ·have HR:=(zaa (show R=rels.all (za7 ns nt) by rw[hR];exact yac6 hbad));have HP:= zaa hp;obtain⟨g1,g2,g3,g4,g5,g6,g7⟩:1<=sz/\sz<=3/\(rels.length:Int)<=3/\0<=nw/\nw<(rels.length:Int)/\0<=wn/\wn<(rels.length:Int):=by omega
  clear hR hp hbad
  go_enter Tryz.func70,Tryz.ntmps70
  go_wp2_with fail
  all_goals first|(exfalso;omega)|skip
  go_loopw [6] (fun vi wr=>∃ i:Nat,i<=rels.length/\vi=.int .i64 i/\Hid ((rels.take i).all (za7 ns nt)=true)/\Below ((w.alloc (.cells #[.slice sa ns sc,.slice ta nt tc,.slice va vl vc] 26)).alloc (.cells #[.int .i64 sz,.int .i64 nw,.int .i64 wn,.slice ra rels.length rc] 73)).heap.size ((w.alloc (.cells #[.slice sa ns sc,.slice ta nt tc,.slice va vl vc] 26)).alloc (.cells #[.int .i64 sz,.int .i64 nw,.int .i64 wn,.slice ra rels.length rc] 73)) wr) (fun i _=>rels.length-(intOf i).toNat)
  case atStart=>exact⟨0,qe _,rfl,rfl,Below.refl _ _⟩
  case round =>
   obtain⟨i,hi,rfl,hall,hb5⟩:=hrel
   rename World=>w5
   obtain⟨f0,f1,f2⟩:=zaq hb5 e0;have l5:=zag f0;have s3:=(s0.keep hb5).cell (j:=3) rfl;have l6:=zag s3;have hB5:=thn3 hbx hb5;have hx0 := znn i;by_cases hlt:i<rels.length
   ·obtain⟨ps,hps⟩:∃ ps,rels[i]?=some ps:=⟨rels[i],xo hlt⟩;obtain⟨b,o,pa,pl,pc,rfl,c0,hq1,hq2,_,_,hq3⟩:=HP.out i ps hps;subst hq1;have c0:=zab hB5 c0;have lc:=zag c0;have hx1:(i:Int)<(rels.length:Int):=by omega
    have hpin:=fun (W:World) (h:Below w5.heap.size w5 W)=>yaab ns nt ps hns hnt W pa pc hq2 ((hq3.keep hB5).keep h);have hat:=zed (za7 ns nt) hps;have hno:za7 ns nt ps=false->R=false:=fun h=>by rw[HR.out];exact zec hps h
    rw[hall.out,qd]at hat;have HAT:= zaa hat;generalize za7 ns nt ps=x at hpin hno HAT;clear hall hat hps hq3;cases x with
    |false =>
     have hR1:=hno rfl;clear HR hno;subst hR1
     go_wp2_with fail
     go_region_held3 (fun w'=>w'.cell? ⟨w.heap.size+1,3,none⟩=some (.slice (some ⟨b,o,none⟩) rels.length rc)/\w'.cell? ⟨b,o+i,none⟩=some (.slice pa ps.length pc)/\w'.cell? ⟨w.heap.size,1,none⟩=some (.slice ta nt tc)/\w'.cell? ⟨w.heap.size,0,none⟩=some (.slice sa ns sc)) (go_keep) (first|(go_at_call 132;refine(hpin _ (Below.refl _ _).drew).mono ?_;rintro e w6 ⟨rfl,hb6⟩;have k1:=zab hb6 s3;have k2:=zab hb6 c0;have k3:=zab hb6 f1;have k4:=zab hb6 f0))
     go_wp2_with fail
     go_ret;exact⟨rfl,thn3 hB5.drew hb6⟩
    |true =>
     clear hno
     go_wp2_with fail
     go_region_held3 (fun w'=>w'.cell? ⟨w.heap.size+1,3,none⟩=some (.slice (some ⟨b,o,none⟩) rels.length rc)/\w'.cell? ⟨b,o+i,none⟩=some (.slice pa ps.length pc)/\w'.cell? ⟨w.heap.size,1,none⟩=some (.slice ta nt tc)/\w'.cell? ⟨w.heap.size,0,none⟩=some (.slice sa ns sc)) (go_keep) (first|(go_at_call 132;refine(hpin _ (Below.refl _ _).drew).mono ?_;rintro e w6 ⟨rfl,hb6⟩;have k1:=zab hb6 s3;have k2:=zab hb6 c0;have k3:=zab hb6 f1;have k4:=zab hb6 f0))
     go_wp2_with fail
     go_roundw
     case rel=>exact⟨i+1,by omega,by go_num,HAT,thn3 hb5.drew hb6⟩
     case measure=>simp[intOf];omega
   ·have hR1:R=true:=by rw[HR.out,<- hall.out,xv (by omega)]
    clear HR hall;subst hR1
    go_wp2_with fail
    go_ret;exact⟨rfl,hB5⟩
theorem zvf {s:ByteArray}(h:schB s=true):chk false s=0:=by
 unfold schB at h;rw[xz]at h;have:=of_decide_eq_true h.1;unfold chk;rw[if_neg (by omega),if_pos h.2]
theorem zve {s:ByteArray}(h:schB s=false):chk false s≠0:=by
 unfold schB at h;unfold chk;by_cases h1:60<s.size
 ·rw[if_pos h1];decide
 ·rw[decide_eq_true (by omega),qd]at h;rw[if_neg h1,if_neg (by rw[h];simp)];decide
theorem zy8 {f:zac}(h:8<f.ss.length\/4<f.ts.length\/f.vs.length<1\/3<f.vs.length):ordB f=false:=by
 unfold ordB zc1 zc2 zd9;rw[qh];intro hc;simp only[xz,decide_eq_true_eq]at hc;omega
theorem zy9 {f:zac}(h:¬ (8<f.ss.length\/4<f.ts.length\/f.vs.length<1\/3<f.vs.length)):ordB f=(f.ss.all schB&&(f.ts.all topB&&f.vs.all (svcB f.ss.length f.ts.length))):=by
 unfold ordB zc1 zc2 zd9;rw[decide_eq_true (by omega),decide_eq_true (by omega),decide_eq_true (by omega),decide_eq_true (by omega)];simp only[qd,Bool.and_assoc]
theorem yacg (f:zac)(sa ta va:Option Addr)(sl sc tl tc vl vc:Nat)(w:World)(hf:FleetAt w sa sl sc ta tl tc va vl vc f) :
  Calls Tryz.prog 26 #[.agg #[.slice sa sl sc,.slice ta tl tc,.slice va vl vc]] w fun e W=>e=.returned (.bool (ordB f))/\Below w.heap.size w W:=by
 obtain⟨R,hR⟩:∃ R,R=ordB f:=⟨_,rfl⟩;rw[<- hR];have f0:=box3 w (.slice sa sl sc) (.slice ta tl tc) (.slice va vl vc) 26;have hb0:=bel1 w (.cells #[.slice sa sl sc,.slice ta tl tc,.slice va vl vc] 26);have k1:=hf.s1;have k2:=hf.t1;have k3:=hf.v1;subst k1 k2 k3;have l1:=hf.s2;have l2:=hf.t2;have l3:=hf.v2;have HF:= zaa hf;clear hf;by_cases hbad:8<f.ss.length\/4<f.ts.length\/f.vs.length<1\/3<f.vs.length
 ·have hR1:R=false:=by rw[hR];exact zy8 hbad
  have hbad':8<(f.ss.length:Int)\/4<(f.ts.length:Int)\/(f.vs.length:Int)<1\/3<(f.vs.length:Int):=by omega
  clear hR;subst hR1;obtain⟨f00,f01,f02⟩:=f0
  go_enter Tryz.func26,Tryz.ntmps26
  go_wp2_with fail
  all_goals first|(go_ret;exact⟨rfl,hb0⟩)|(exfalso;omega)
 ·have HR:=(zaa (show R=(f.ss.all schB&&(f.ts.all topB&&f.vs.all (svcB f.ss.length f.ts.length))) by rw[hR];exact zy9 hbad));obtain⟨g1,g2,g3,g4⟩:(f.ss.length:Int)<=8/\(f.ts.length:Int)<=4/\1<=(f.vs.length:Int)/\(f.vs.length:Int)<=3:=by omega
  clear hR hbad;obtain⟨f00,f01,f02⟩:=f0
  go_enter Tryz.func26,Tryz.ntmps26
  go_wp2_with fail
  all_goals first|(exfalso;omega)|skip
  have f0:=zf3 f00 (zf3 f01 f02)
  go_loopw [3] (fun vi wr=>∃ i:Nat,i<=f.ss.length/\vi=.int .i64 i/\Hid ((f.ss.take i).all schB=true)/\Below (w.alloc (.cells #[.slice sa f.ss.length sc,.slice ta f.ts.length tc,.slice va f.vs.length vc] 26)).heap.size (w.alloc (.cells #[.slice sa f.ss.length sc,.slice ta f.ts.length tc,.slice va f.vs.length vc] 26)) wr) (fun i _=>f.ss.length-(intOf i).toNat)
  case atStart=>exact⟨0,qe _,rfl,rfl,Below.refl _ _⟩
  case round =>
   obtain⟨i,hi,rfl,hall,hb5⟩:=hrel
   rename World=>w5
   obtain⟨q0,q1,q2⟩:=zaq hb5 f0;have l5:=zag q0;have hB5:=thn3 hb0 hb5;have hx0 := znn i;by_cases hlt:i<f.ss.length
   ·obtain⟨s,hs⟩:∃ s,f.ss[i]?=some s:=⟨f.ss[i],xo hlt⟩;obtain⟨b,o,rfl,c0⟩:=HF.out.s4 i s hs;have c0:=zab hB5 c0;have lc:=zag c0;have hx1:(i:Int)<(f.ss.length:Int):=by omega
    have hck:=fun W=>zte s (HF.out.s3 s (qq hs)) W;have hat:=zed schB hs;rw[hall.out,qd]at hat;cases hsb:schB s with
    |false =>
     have hR1:R=false:=by rw[HR.out,zec hs hsb];rfl
     have hne:=zve hsb;generalize chk false s=x at hck hne;have d1:(x == 0)=false:=by simp[hne]
     have d2:(x != 0)=true:=by simp[hne]
     have d3:decide (x=0)=false:=by simp[hne]
     clear HR hall hat hsb hs;subst hR1
     go_wp2_with (go_at_call 69;refine(hck _).mono ?_;rintro e w6 ⟨rfl,hb6⟩)
     go_ret;exact⟨rfl,thn3 hB5 hb6⟩
    |true =>
     rw[zvf hsb]at hck;have HAT:=(zaa (hat.trans hsb));clear hall hat hsb hs
     go_wp2_with (go_at_call 69;refine(hck _).mono ?_;rintro e w6 ⟨rfl,hb6⟩)
     go_roundw
     case rel=>exact⟨i+1,by omega,by go_num,HAT,thn3 hb5 hb6⟩
     case measure=>simp[intOf];omega
   ·have hss:f.ss.all schB=true:=by rw[<- hall.out,xv (by omega)]
    have HR2:=(zaa (show R=(f.ts.all topB&&f.vs.all (svcB f.ss.length f.ts.length)) by rw[HR.out,hss];rfl));clear hall hss HR
    go_wp2_with fail
    go_loopw [5] (fun vi wr=>∃ i:Nat,i<=f.ts.length/\vi=.int .i64 i/\Hid ((f.ts.take i).all topB=true)/\Below (w.alloc (.cells #[.slice sa f.ss.length sc,.slice ta f.ts.length tc,.slice va f.vs.length vc] 26)).heap.size (w.alloc (.cells #[.slice sa f.ss.length sc,.slice ta f.ts.length tc,.slice va f.vs.length vc] 26)) wr) (fun i _=>f.ts.length-(intOf i).toNat)
    case atStart=>exact⟨0,qe _,rfl,rfl,hb5⟩
    case round =>
     clear hb5 hB5 q0 q1 q2 l5;obtain⟨i,hi,rfl,hall,hb5⟩:=hrel
     rename World=>w6
     obtain⟨q0,q1,q2⟩:=zaq hb5 f0;have l5:=zag q0;have hB5:=thn3 hb0 hb5;have hx0 := znn i;by_cases hlt:i<f.ts.length
     ·obtain⟨x,hs⟩:∃ s,f.ts[i]?=some s:=⟨f.ts[i],xo hlt⟩;obtain⟨b,o,rfl,c0⟩:=HF.out.t3 i x hs;have c0:=zab hB5 c0;have lc:=zag c0;have hx1:(i:Int)<(f.ts.length:Int):=by omega
      have hat:=zed topB hs;rw[hall.out,qd]at hat;by_cases hsb:0<=x/\x<=6
      ·obtain⟨x0,x6⟩:=hsb;have HAT:=(zaa (hat.trans (show topB x=true by unfold topB;rw[decide_eq_true x0,decide_eq_true x6];rfl)));clear hall hat hs
       go_wp2_with fail
       all_goals first|(exfalso;omega)|skip
       go_roundw
       case rel=>exact⟨i+1,by omega,by go_num,HAT,hb5⟩
       case measure=>simp[intOf];omega
      ·have hR1:R=false:=by
        rw[HR2.out,zec hs (show topB x=false by unfold topB;rw[qh];intro hc;simp at hc;omega)];rfl
       clear HR2 hall hat hs;subst hR1
       go_wp2_with fail
       all_goals first|(go_ret;exact⟨rfl,hB5⟩)|(exfalso;omega)
     ·have hss:f.ts.all topB=true:=by rw[<- hall.out,xv (by omega)]
      have HR:=(zaa (show R=f.vs.all (svcB f.ss.length f.ts.length) by rw[HR2.out,hss];rfl));clear hall hss HR2
      go_wp2_with fail
      go_loopw [6] (fun vi wr=>∃ i:Nat,i<=f.vs.length/\vi=.int .i64 i/\Hid ((f.vs.take i).all (svcB f.ss.length f.ts.length)=true)/\Below (w.alloc (.cells #[.slice sa f.ss.length sc,.slice ta f.ts.length tc,.slice va f.vs.length vc] 26)).heap.size (w.alloc (.cells #[.slice sa f.ss.length sc,.slice ta f.ts.length tc,.slice va f.vs.length vc] 26)) wr) (fun i _=>f.vs.length-(intOf i).toNat)
      case atStart=>exact⟨0,qe _,rfl,rfl,hb5⟩
      case round =>
       clear hb5 hB5 q0 q1 q2 l5;obtain⟨i,hi,rfl,hall,hb5⟩:=hrel
       rename World=>w7
       obtain⟨q0,q1,q2⟩:=zaq hb5 f0;have l5:=zag q0;have hB5:=thn3 hb0 hb5;have hx0 := znn i;by_cases hlt:i<f.vs.length
       ·obtain⟨v,hs⟩:∃ s,f.vs[i]?=some s:=⟨f.vs[i],xo hlt⟩;obtain⟨b,o,ra,rl,rc,rfl,c0,c1,c2,c3,hrs⟩:=HF.out.v3 i v hs;have hrs:=RelSl.keepP hB5 hrs;have c0:=zab hB5 c0;have c1:=zab hB5 c1;have c2:=zab hB5 c2;have c3:=zab hB5 c3;have lc:=zag c0;have hx1:(i:Int)<(f.vs.length:Int):=by omega
        have hmn:=fun (W:World) (h:Below w7.heap.size w7 W)=>zye f.ss.length f.ts.length v sa ta (some ⟨b,o,none⟩) sc tc f.vs.length vc l1 l2 W ra rl rc (RelSl.keepP h hrs);have hat:=zed (svcB f.ss.length f.ts.length) hs;rw[hall.out,qd]at hat;have HAT:= zaa hat;have hno:svcB f.ss.length f.ts.length v=false->R=false:=fun h=>by rw[HR.out];exact zec hs h
        generalize svcB f.ss.length f.ts.length v=x at hmn HAT hno;clear hall hat hs hrs;obtain⟨v1,v2,v3,v4⟩:=v;simp only at c0 c1 c2 hmn;cases x with
        |false =>
         have hR1:=hno rfl;clear HR hno;subst hR1
         go_wp2_with fail
         go_region_held3 (fun w'=>(w'.cell? ⟨w.heap.size,0,none⟩=some (.slice sa f.ss.length sc)/\w'.cell? ⟨w.heap.size,1,none⟩=some (.slice ta f.ts.length tc)/\w'.cell? ⟨w.heap.size,2,none⟩=some (.slice (some ⟨b,o,none⟩) f.vs.length vc))/\w'.cell? ⟨b,o+i*4,none⟩=some (.int .i64 v1)/\w'.cell? ⟨b,o+i*4+1,none⟩=some (.int .i64 v2)/\w'.cell? ⟨b,o+i*4+2,none⟩=some (.int .i64 v3)/\w'.cell? ⟨b,o+i*4+3,none⟩=some (.slice ra rl rc)) (go_keep) (first|(go_at_call 70;refine(hmn _ (Below.refl _ _).drew).mono ?_;rintro e w8 ⟨rfl,hb8⟩;have p0:=zab hb8 q0;have p1:=zab hb8 q1;have p2:=zab hb8 q2;have r0:=zab hb8 c0;have r1:=zab hb8 c1;have r2:=zab hb8 c2;have r3:=zab hb8 c3))
         go_wp2_with fail
         go_ret;exact⟨rfl,thn3 hB5.drew hb8⟩
        |true =>
         clear hno
         go_wp2_with fail
         go_region_held3 (fun w'=>(w'.cell? ⟨w.heap.size,0,none⟩=some (.slice sa f.ss.length sc)/\w'.cell? ⟨w.heap.size,1,none⟩=some (.slice ta f.ts.length tc)/\w'.cell? ⟨w.heap.size,2,none⟩=some (.slice (some ⟨b,o,none⟩) f.vs.length vc))/\w'.cell? ⟨b,o+i*4,none⟩=some (.int .i64 v1)/\w'.cell? ⟨b,o+i*4+1,none⟩=some (.int .i64 v2)/\w'.cell? ⟨b,o+i*4+2,none⟩=some (.int .i64 v3)/\w'.cell? ⟨b,o+i*4+3,none⟩=some (.slice ra rl rc)) (go_keep) (first|(go_at_call 70;refine(hmn _ (Below.refl _ _).drew).mono ?_;rintro e w8 ⟨rfl,hb8⟩;have p0:=zab hb8 q0;have p1:=zab hb8 q1;have p2:=zab hb8 q2;have r0:=zab hb8 c0;have r1:=zab hb8 c1;have r2:=zab hb8 c2;have r3:=zab hb8 c3))
         go_wp2_with fail
         go_roundw
         case rel=>exact⟨i+1,by omega,by go_num,HAT,thn3 hb5.drew hb8⟩
         case measure=>simp[intOf];omega
       ·have hR1:R=true:=by rw[HR.out,<- hall.out,xv (by omega)]
        clear HR hall;subst hR1
        go_wp2_with fail
        go_ret;exact⟨rfl,hB5⟩
end Go.Proofs.YtkkekopomiehlabGreatDoor
