import Derived.Test.YtkkekopomiehlabGreatDoorEBs4
set_option linter.unusedVariables false
set_option linter.unusedSimpArgs false
set_option maxHeartbeats 40000000
open List renaming setIfInBounds_toArray->xe,getElem_cons_zero->xf,getElem_cons_succ->xg,getElem_toArray->xh,set_cons_zero->xj,set_cons_succ->xm,not_mem_nil->xo,mem_cons->xp,length_map->xz,getElem?_eq_some_iff->qf,getElem?_map->qh
open Go.AllReadyH renaming cons->xq,nil->xy
open Go.Act renaming put->xu
open Go.Value renaming ownBlock->xv,oneCell'->qg
open Go.World renaming news_of_block->qd
open Or renaming inl->qe
open Go.RowKit
set_option maxRecDepth 4000
namespace Go.Proofs.YtkkekopomiehlabGreatDoor
def zjg (j:Nat)(k a b:Int)(w:World)(e:Ending)(W:World):Prop:=∃ sa sl sc ta tl tc va vl vc ma mc,e=.returned (.tuple #[.agg #[.slice sa sl sc,.slice ta tl tc,.slice va vl vc],.slice ma (tlM j).length mc])/\FleetAt W sa sl sc ta tl tc va vl vc (tlF j k a b)/\MvsAt W ma (tlM j)/\Below w.heap.size w W
theorem Tryz.infoOneS:(Tryz.prog.info? 22).map (·.size)=some 1:=by kernel_rfl
theorem Tryz.infoOneV:(Tryz.prog.info? 24).map (·.size)=some 1:=by kernel_rfl
theorem Tryz.infoOneI:(Tryz.prog.info? 3).map (·.size)=some 1:=by kernel_rfl
def nilF:List Value:=[.slice none 0 0,.slice none 0 0,.slice none 0 0]
theorem zew {W:World}{f:zac}{gs gt gv:Nat}{t1 t2 t3:TypeId}{L:List (SvcD×Nat×Nat)}{k:Int}(h1:RowIs W gs t1 (f.ss.map Value.string))(h2:RowIs W gt t2 [.int .i64 k])(h3:RowIs W gv t3 (L.flatMap fun q=>[.int .i64 q.1.size,.int .i64 q.1.now,.int .i64 q.1.want,.slice (some ⟨q.2.1,0,none⟩) q.1.rels.length q.2.2]))(h4:∀ q∈L,RelSl PinSl W (some ⟨q.2.1,0,none⟩) q.1.rels.length q.2.2 q.1.rels)(hk:f.ts=[k])(hv:f.vs=L.map Prod.fst)(hs:f.ss.length<=3)(hs2:∀ s∈f.ss,s.size<=60)(hl:L.length<=3)(c1 c2 c3:Nat):FleetAt W (some ⟨gs,0,none⟩) f.ss.length c1 (some ⟨gt,0,none⟩) 1 c2 (some ⟨gv,0,none⟩) L.length c3 f:=by
 refine⟨rfl,by omega,fun s hs'=>by have:=hs2 s hs';unfold maxLen;omega,yac2 h1,by rw[hk];rfl,by rw[hk];simp,?_,by rw[hv,xz],by rw[hv,xz];omega,by rw[hv];exact yac7 h3 h4⟩;rw[hk];intro i x hi;have:i=0:=by have:=(qf.1 hi).1;simpa using this
 subst this;simp at hi;subst hi;exact⟨gt,0,rfl,h2.cell (j:=0) rfl⟩
theorem zcs (j:Nat)(k a b:Int):(tlF j k a b).ss.length<=3/\∀ s∈(tlF j k a b).ss,s.size<=60:=by
 unfold tlF;split
 all_goals
  refine⟨by simp,fun s hs=>?_⟩;simp only[xp,xo,or_false]at hs
 iterate 3
  ·rcases hs with rfl|rfl<;>decide
 ·rcases hs with rfl|rfl|rfl<;>decide
 ·rcases hs with rfl|rfl<;>decide
theorem Tryz.infoRelQ:(Tryz.prog.info? 108).map (fun i=>(i.zero,i.size,i.bytes))=some (some (.agg #[.slice none 0 0]),1,24):=by kernel_rfl
theorem zlc {w:World}{g:Nat}{e:TypeId}{cs:List Value}{n:Nat}(h:RowIs w g e cs)(hn:cs.length=n:=by rfl)(hm:n<=9000000:=by omega):w.ownsRow 0 e 1 (.slice (some ⟨g,0,none⟩) n n) n cs :=
 ⟨by omega,.inr ⟨g,n,cs.toArray,rfl,Nat.zero_le _,h,Nat.le_refl _,by unfold maxLen;omega,by simp;omega,by rw[Nat.mul_one,List.take_of_length_le (by simp;omega)]⟩⟩
theorem zla {W:World}{g c:Nat}{L:List (Nat×PinD)}(h:W.ownsRow 0 108 1 (.slice (some ⟨g,0,none⟩) L.length c) L.length (L.map fun q=>.slice (some ⟨q.1,0,none⟩) 1 1))(hp:∀ q∈L,RowIs W q.1 165 (pinF q.2))(hl:L.length<=3):RelSl PinSl W (some ⟨g,0,none⟩) L.length c (L.map fun q=>[q.2]):=by
 obtain⟨a,c',e,h1,h2⟩:=zbb h (by omega);cases e;have hc:c<=9223372036854775807:=by
  rcases h.2 with⟨q,_⟩|⟨g',cap,cur,q,_,_,_,q2,_⟩
  ·cases q
  ·cases q;unfold maxLen at q2;omega
 refine⟨by rw[xz],by rw[xz];omega,h1,hc,fun i ps hi=>?_⟩;rw[qh]at hi;obtain⟨q,hq,rfl⟩:=Option.map_eq_some_iff.1 hi;obtain⟨b,e1,_,e3⟩:=h2 i (.slice (some ⟨q.1,0,none⟩) 1 1) (by rw[qh,hq];rfl);refine⟨b,0,some ⟨q.1,0,none⟩,1,1,e1,by rw[Nat.zero_add];exact e3,rfl,by simp,by omega,by omega,fun j p hj=>?_⟩;have hj0:j=0:=by have:=(qf.1 hj).1;simpa using this
 subst hj0;simp at hj;subst hj;have r:=hp q (List.mem_of_getElem? hq);exact⟨q.1,0,rfl,r.cell (j:=0) rfl,r.cell (j:=1) rfl,r.cell (j:=2) rfl⟩
theorem yadi (c keep n m:Int)(hc:-9223372036854775808<=c/\c<=9223372036854775807)(hk:-9223372036854775808<=keep/\keep<=9223372036854775807)(hn:-9223372036854775808<=n/\n<=9223372036854775807)(hm:-9223372036854775808<=m/\m<=9223372036854775807)(w:World) :
  Calls Tryz.prog 19 #[.int .i64 c,.int .i64 keep,.int .i64 n,.int .i64 m] w fun e W=>zjg (pckN c 5) (1+(pckN keep 6:Nat)) (1+(pckN n 3:Nat)) (1+(pckN m 3:Nat)) w e W:=by
 have p1:=fun W=>zcj keep 6 hk (by omega) (by omega) W;have p2:=fun W=>zcj n 3 hn (by omega) (by omega) W;have p3:=fun W=>zcj m 3 hm (by omega) (by omega) W;have p4:=fun W=>zcj c 5 hc (by omega) (by omega) W;have b1:=zbn keep (n:=6) (by omega);have b2:=zbn n (n:=3) (by omega);have b3:=zbn m (n:=3) (by omega);have b4:=zbn c (n:=5) (by omega);generalize pckN keep 6=kk at *;generalize pckN n 3=na at *;generalize pckN m 3=nb at *;generalize pckN c 5=j at *;have c1:=fun W=>yae6 (1+(na:Int)) W;have c2:=fun W=>yabf (1+(nb:Int)) W;have rA:=fun W=>zem 0 0 W;have rB:=fun W=>zem 0 1 W;have rC:=fun W=>zem 1 1 W;have rD:=fun W=>zem (-1) 2 W;obtain⟨iR,hiR,zR0,zR1,zR2⟩:=info_parts Tryz.infoRelQ;have Z0:Hid (RowIs (w.alloc (.cells #[.slice none 0 0,.slice none 0 0,.slice none 0 0] 26)) w.heap.size 26 nilF):=zbt _ _;have hj:j=0\/j=1\/j=2\/j=3\/j=4:=by omega
 clear hc hk hn hm b4;rcases hj with rfl|rfl|rfl|rfl|rfl
 all_goals
  go_enter Tryz.func19,Tryz.ntmps19
  go_wp2_with (first
   |(go_at_call 42;have hq:=h3;refine(p4 _).mono ?_;rintro e _ ⟨rfl,rfl⟩)
   |(go_at_call 42;have hq:=h2;refine(p3 _).mono ?_;rintro e _ ⟨rfl,rfl⟩;have h3:=zaa hq)
   |(go_at_call 42;have hq:=h1;refine(p2 _).mono ?_;rintro e _ ⟨rfl,rfl⟩;have h2:=zaa hq)
   |(go_at_call 42;refine(p1 _).mono ?_;rintro e _ ⟨rfl,rfl⟩;have h1:=zaa b1)
   |(go_at_call 43;refine(c1 _).mono ?_;rintro e w4 ⟨g1,a1,a2,rfl,hr1,hr2,hr3,hb4⟩)
   |(go_at_call 44;refine(c2 _).mono ?_;rintro e w5 ⟨g2,a3,a4,rfl,hr4,hr5,hr6,hb5,hg2⟩;have lg2w:=zaa (show w.heap.size<=g2 from(by have:=hb4.size;simp at this;omega));clear hg2;have T5:=zaa (((show RowIs ((w.alloc (.cells #[.slice none 0 0,.slice none 0 0,.slice none 0 0] 26)).alloc (.cells #[.int .i64 (1+(kk:Int))] 104)) (w.heap.size+1) 104 [.int .i64 (1+(kk:Int))]from nw2 _ _ _).keep hb4).keep hb5);have Z5:=zaa (((Z0.out.keep (bel1 _ (.cells #[.int .i64 (1+(kk:Int))] 104))).keep hb4).keep hb5);have B5:=zaa (thn3 (thn3 (thn3 (bel1 w (.cells #[.slice none 0 0,.slice none 0 0,.slice none 0 0] 26)) (bel1 _ (.cells #[.int .i64 (1+(kk:Int))] 104))) hb4) hb5);have A1:=zaa (hr1.keep hb5);have A2:=zaa (hr2.keep hb5);have A3:=zaa (hr3.keep hb5);have A4:=zaa hr4;have A5:=zaa hr5;have A6:=zaa hr6;have lz:=Z5.out.lt;have lt5:=T5.out.lt;clear hr1 hr2 hr3 hr4 hr5 hr6 hb4 hb5)
   |(refine zi5 rfl 22 _ _ rfl (w5.heap.size+1) 0 (.slice (some ⟨w5.heap.size+2,0,none⟩) 2 2) 26 [.slice none 0 0,.slice (some ⟨w.heap.size+1,0,none⟩) 1 1,.slice (some ⟨w5.heap.size,0,none⟩) 2 2] rfl rfl (RowIs.keep (show RowIs _ (w5.heap.size+1) 26 [.slice none 0 0,.slice (some ⟨w.heap.size+1,0,none⟩) 1 1,.slice (some ⟨w5.heap.size,0,none⟩) 2 2]from nw2 w5 _ _) (bel1 _ _)) (by simp) Tryz.infoOneS rfl ?_;intro w7 R7 C7;(try simp only[xu,xe,xj,xm,xh,xf,xg]);have k0:=R7.cell (j:=0) rfl;have k1:=R7.cell (j:=1) rfl;have k2:=R7.cell (j:=2) rfl;have R7:=zaa R7;have C7:=zaa C7)
   |(refine zi5 rfl 22 _ _ rfl (w5.heap.size+1) 0 (.slice (some ⟨w5.heap.size+2,0,none⟩) 3 3) 26 [.slice none 0 0,.slice (some ⟨w.heap.size+1,0,none⟩) 1 1,.slice (some ⟨w5.heap.size,0,none⟩) 2 2] rfl rfl (RowIs.keep (show RowIs _ (w5.heap.size+1) 26 [.slice none 0 0,.slice (some ⟨w.heap.size+1,0,none⟩) 1 1,.slice (some ⟨w5.heap.size,0,none⟩) 2 2]from nw2 w5 _ _) (bel1 _ _)) (by simp) Tryz.infoOneS rfl ?_;intro w7 R7 C7;(try simp only[xu,xe,xj,xm,xh,xf,xg]);have k0:=R7.cell (j:=0) rfl;have k1:=R7.cell (j:=1) rfl;have k2:=R7.cell (j:=2) rfl;have R7:=zaa R7;have C7:=zaa C7)
   |(refine zi5 rfl 3 _ _ rfl (w.heap.size+1) 0 (.int .i64 0) 104 [.int .i64 (1+(kk:Int))] rfl rfl (C7.out.row (RowIs.keep (RowIs.keep (RowIs.keep T5.out (bel1 _ _)) (bel1 _ _)) (bel1 _ _)) (by omega)) (by simp) Tryz.infoOneI rfl ?_;intro w8 R8 C8;(try simp only[xu,xe,xj,xm,xh,xf,xg]);have k0:=(C8.row R7.out (by omega)).cell (j:=0) rfl;have k1:=(C8.row R7.out (by omega)).cell (j:=1) rfl;have k2:=(C8.row R7.out (by omega)).cell (j:=2) rfl;have R8:=zaa R8;have C8:=zaa C8)
   |(go_at_call 45;refine(rA _).mono ?_;rintro e w8 ⟨q1,rfl,hq1,hb8⟩;have Q1:=zaa hq1;clear hq1)
   |(go_at_call 45;refine(rB _).mono ?_;rintro e w9 ⟨q2,rfl,hq2,hb9⟩;have Q2:=zaa hq2;clear hq2)
   |(go_at_call 45;refine(rC _).mono ?_;rintro e w10 ⟨q3,rfl,hq3,hb10⟩;have Q3:=zaa hq3;have HB:=zaa (thn3 (thn3 hb8 hb9) hb10);have P1:=zaa ((Q1.out.keep hb9).keep hb10);have P2:=zaa (Q2.out.keep hb10);have R10:=zaa (R7.out.keep HB.out);have l10:=R10.out.lt;clear hq3)
   |(have hq:=R10;refine zi5 rfl 24 _ _ rfl (w5.heap.size+1) 2 (.slice (some ⟨w10.heap.size+1,0,none⟩) 1 1) 26 _ rfl rfl (RowIs.keep (RowIs.keep R10.out (bel1 _ _)) (bel1 _ _)) (by simp) Tryz.infoOneV rfl ?_;intro w11 R11 C11;(try simp only[xu,xe,xj,xm,xh,xf,xg]);have k0:=R11.cell (j:=0) rfl;have k1:=R11.cell (j:=1) rfl;have k2:=R11.cell (j:=2) rfl;have R11:=zaa R11;have C11:=zaa C11;have Z11:=zaa (C11.out.row (RowIs.keep (RowIs.keep (RowIs.keep (C7.out.row (RowIs.keep (RowIs.keep (RowIs.keep Z5.out (bel1 _ _)) (bel1 _ _)) (bel1 _ _)) (by omega)) HB.out) (bel1 _ _)) (bel1 _ _)) (by omega)))
   |(have hq:=C11;refine zdd rfl 26 _ _ rfl w.heap.size [.slice (some ⟨w5.heap.size+2,0,none⟩) 2 2,.slice (some ⟨w.heap.size+1,0,none⟩) 1 1,.slice (some ⟨w10.heap.size+1,0,none⟩) 1 1] nilF _ rfl rfl (RowIs.keep Z11.out (bel1 _ _)) rfl Tryz.infoFlt3 one3 ?_;intro w12 R12 C12;(try simp only[xu,xe,xj,xm,xh,xf,xg]))
   |(have hq:=C8;refine zdd rfl 26 _ _ rfl w.heap.size [.slice (some ⟨w5.heap.size+2,0,none⟩) 2 2,.slice (some ⟨w.heap.size+1,0,none⟩) 1 1,.slice (some ⟨w5.heap.size,0,none⟩) 2 2] nilF _ rfl rfl (RowIs.keep (C8.out.row (C7.out.row (RowIs.keep (RowIs.keep (RowIs.keep Z5.out (bel1 _ _)) (bel1 _ _)) (bel1 _ _)) (by omega)) (by omega)) (bel1 _ _)) rfl Tryz.infoFlt3 one3 ?_;intro w9 R9 C9;(try simp only[xu,xe,xj,xm,xh,xf,xg]))
   |(refine zdd rfl 26 _ _ rfl w.heap.size [.slice (some ⟨w5.heap.size+2,0,none⟩) 2 2,.slice (some ⟨w.heap.size+1,0,none⟩) 1 1,.slice (some ⟨w5.heap.size,0,none⟩) 2 2] nilF _ rfl rfl (RowIs.keep (C7.out.row (RowIs.keep (RowIs.keep (RowIs.keep Z5.out (bel1 _ _)) (bel1 _ _)) (bel1 _ _)) (by omega)) (bel1 _ _)) rfl Tryz.infoFlt3 one3 ?_;intro w9 R9 C9;(try simp only[xu,xe,xj,xm,xh,xf,xg])))
 ·have tr:∀ {b:Nat} {t:TypeId} {cs:List Value},RowIs w5 b t cs->t≠26->RowIs w9 b t cs:=fun {b t cs} h ht=>by
   have l:=h.lt;exact C9.row (RowIs.keep (C7.out.row (RowIs.keep (RowIs.keep (RowIs.keep h (bel1 _ _)) (bel1 _ _)) (bel1 _ _)) (by omega)) (bel1 _ _)) (fun q=>h.ne Z5.out ht q)
  have l7:w5.heap.size+3<=w7.heap.size:=by have:=C7.out.size;simp at this;omega
  have o0:=R9.cell (j:=0) rfl;have o1:=R9.cell (j:=1) rfl;have o2:=R9.cell (j:=2) rfl;refine bodyPost_ret (v:=.tuple #[.agg #[.slice (some ⟨w5.heap.size+2,0,none⟩) 2 2,.slice (some ⟨w.heap.size+1,0,none⟩) 1 1,.slice (some ⟨w5.heap.size,0,none⟩) 2 2],.slice (some ⟨w7.heap.size,0,none⟩) 2 2]) (by simp[results,Tryz.results19,go_sem,o0,o1,o2]) rfl ?_;have sS:=C9.row (RowIs.keep (C7.out.row (show RowIs _ (w5.heap.size+2) 9 _ from nw3' w5 _ _ _) (by omega)) (bel1 _ _)) (by omega);have sV:=C9.row (RowIs.keep (C7.out.row (RowIs.keep (RowIs.keep (show RowIs _ w5.heap.size 73 _ from zbt w5 _) (bel1 _ _)) (bel1 _ _)) (by omega)) (bel1 _ _)) (by omega);have sM:=C9.row (show RowIs _ w7.heap.size 62 _ from zbt w7 _) (by omega);refine⟨_,2,2,_,1,1,_,2,2,_,2,rfl,zew (f:=tlF 0 _ _ _) (L:=[(svW (1+(na:Int)),g1,2),(svR (1+(nb:Int)),g2,2)]) sS (tr T5.out (by decide)) sV (fun q hq=>?_) rfl rfl (zcs _ _ _ _).1 (zcs _ _ _ _).2 (by simp) 2 1 2,zez sM,?_⟩
  ·simp only[xp,xo,or_false]at hq;rcases hq with rfl|rfl
   ·exact zds (L:=[(a1,⟨0,0,-1⟩),(a2,⟨0,1,-1⟩)]) (tr A1.out (by decide)) (fun q hq=>by
     simp only[xp,xo,or_false]at hq;rcases hq with rfl|rfl
     ·exact tr A2.out (by decide)
     ·exact tr A3.out (by decide)) (by simp) (by simp) (by simp)
   ·exact zds (L:=[(a3,⟨0,-1,0⟩),(a4,⟨0,-1,1⟩)]) (tr A4.out (by decide)) (fun q hq=>by
     simp only[xp,xo,or_false]at hq;rcases hq with rfl|rfl
     ·exact tr A5.out (by decide)
     ·exact tr A6.out (by decide)) (by simp) (by simp) (by simp)
  ·exact(thn3 (thn3 (thn3 (thn3 B5.out (bel1 _ _)) (bel1 _ _)) (bel1 _ _) |>.trans (C7.out.bel (by simp;omega) (fun k hk q=>by omega))) (bel1 _ _)).trans (C9.bel (by simp;omega) (fun k hk q=>by omega))
 ·have tr:∀ {b:Nat} {t:TypeId} {cs:List Value},RowIs w5 b t cs->t≠26->RowIs w9 b t cs:=fun {b t cs} h ht=>by
   have l:=h.lt;exact C9.row (RowIs.keep (C7.out.row (RowIs.keep (RowIs.keep (RowIs.keep h (bel1 _ _)) (bel1 _ _)) (bel1 _ _)) (by omega)) (bel1 _ _)) (fun q=>h.ne Z5.out ht q)
  have l7:w5.heap.size+3<=w7.heap.size:=by have:=C7.out.size;simp at this;omega
  have o0:=R9.cell (j:=0) rfl;have o1:=R9.cell (j:=1) rfl;have o2:=R9.cell (j:=2) rfl;refine bodyPost_ret (v:=.tuple #[.agg #[.slice (some ⟨w5.heap.size+2,0,none⟩) 2 2,.slice (some ⟨w.heap.size+1,0,none⟩) 1 1,.slice (some ⟨w5.heap.size,0,none⟩) 2 2],.slice (some ⟨w7.heap.size,0,none⟩) 2 2]) (by simp[results,Tryz.results19,go_sem,o0,o1,o2]) rfl ?_;have sS:=C9.row (RowIs.keep (C7.out.row (show RowIs _ (w5.heap.size+2) 9 _ from nw3' w5 _ _ _) (by omega)) (bel1 _ _)) (by omega);have sV:=C9.row (RowIs.keep (C7.out.row (RowIs.keep (RowIs.keep (show RowIs _ w5.heap.size 73 _ from zbt w5 _) (bel1 _ _)) (bel1 _ _)) (by omega)) (bel1 _ _)) (by omega);have sM:=C9.row (show RowIs _ w7.heap.size 62 _ from zbt w7 _) (by omega);refine⟨_,2,2,_,1,1,_,2,2,_,2,rfl,zew (f:=tlF 1 _ _ _) (L:=[(svW (1+(na:Int)),g1,2),(svR (1+(nb:Int)),g2,2)]) sS (tr T5.out (by decide)) sV (fun q hq=>?_) rfl rfl (zcs _ _ _ _).1 (zcs _ _ _ _).2 (by simp) 2 1 2,zez sM,?_⟩
  ·simp only[xp,xo,or_false]at hq;rcases hq with rfl|rfl
   ·exact zds (L:=[(a1,⟨0,0,-1⟩),(a2,⟨0,1,-1⟩)]) (tr A1.out (by decide)) (fun q hq=>by
     simp only[xp,xo,or_false]at hq;rcases hq with rfl|rfl
     ·exact tr A2.out (by decide)
     ·exact tr A3.out (by decide)) (by simp) (by simp) (by simp)
   ·exact zds (L:=[(a3,⟨0,-1,0⟩),(a4,⟨0,-1,1⟩)]) (tr A4.out (by decide)) (fun q hq=>by
     simp only[xp,xo,or_false]at hq;rcases hq with rfl|rfl
     ·exact tr A5.out (by decide)
     ·exact tr A6.out (by decide)) (by simp) (by simp) (by simp)
  ·exact(thn3 (thn3 (thn3 (thn3 B5.out (bel1 _ _)) (bel1 _ _)) (bel1 _ _) |>.trans (C7.out.bel (by simp;omega) (fun k hk q=>by omega))) (bel1 _ _)).trans (C9.bel (by simp;omega) (fun k hk q=>by omega))
 ·have tr:∀ {b:Nat} {t:TypeId} {cs:List Value},RowIs w5 b t cs->t≠26->t≠104->RowIs w9 b t cs:=fun {b t cs} h ht ht2=>by
   have l:=h.lt;exact C9.row (RowIs.keep (C8.out.row (C7.out.row (RowIs.keep (RowIs.keep (RowIs.keep h (bel1 _ _)) (bel1 _ _)) (bel1 _ _)) (by omega)) (fun q=>h.ne T5.out ht2 q)) (bel1 _ _)) (fun q=>h.ne Z5.out ht q)
  have l7:w5.heap.size+3<=w8.heap.size:=by have h1:=C7.out.size;have h2:=C8.out.size;simp at h1;omega
  have o0:=R9.cell (j:=0) rfl;have o1:=R9.cell (j:=1) rfl;have o2:=R9.cell (j:=2) rfl;refine bodyPost_ret (v:=.tuple #[.agg #[.slice (some ⟨w5.heap.size+2,0,none⟩) 2 2,.slice (some ⟨w.heap.size+1,0,none⟩) 1 1,.slice (some ⟨w5.heap.size,0,none⟩) 2 2],.slice (some ⟨w8.heap.size,0,none⟩) 2 2]) (by simp[results,Tryz.results19,go_sem,o0,o1,o2]) rfl ?_;have sS:=C9.row (RowIs.keep (C8.out.row (C7.out.row (show RowIs _ (w5.heap.size+2) 9 _ from nw3' w5 _ _ _) (by omega)) (by omega)) (bel1 _ _)) (by omega);have sV:=C9.row (RowIs.keep (C8.out.row (C7.out.row (RowIs.keep (RowIs.keep (show RowIs _ w5.heap.size 73 _ from zbt w5 _) (bel1 _ _)) (bel1 _ _)) (by omega)) (by omega)) (bel1 _ _)) (by omega);have sM:=C9.row (show RowIs _ w8.heap.size 62 _ from zbt w8 _) (by omega);refine⟨_,2,2,_,1,1,_,2,2,_,2,rfl,zew (f:=tlF 2 _ _ _) (L:=[(svW (1+(na:Int)),g1,2),(svR (1+(nb:Int)),g2,2)]) sS (C9.row (RowIs.keep R8.out (bel1 _ _)) (by omega)) sV (fun q hq=>?_) rfl rfl (zcs _ _ _ _).1 (zcs _ _ _ _).2 (by simp) 2 1 2,zez sM,?_⟩
  ·simp only[xp,xo,or_false]at hq;rcases hq with rfl|rfl
   ·exact zds (L:=[(a1,⟨0,0,-1⟩),(a2,⟨0,1,-1⟩)]) (tr A1.out (by decide) (by decide)) (fun q hq=>by
     simp only[xp,xo,or_false]at hq;rcases hq with rfl|rfl
     ·exact tr A2.out (by decide) (by decide)
     ·exact tr A3.out (by decide) (by decide)) (by simp) (by simp) (by simp)
   ·exact zds (L:=[(a3,⟨0,-1,0⟩),(a4,⟨0,-1,1⟩)]) (tr A4.out (by decide) (by decide)) (fun q hq=>by
     simp only[xp,xo,or_false]at hq;rcases hq with rfl|rfl
     ·exact tr A5.out (by decide) (by decide)
     ·exact tr A6.out (by decide) (by decide)) (by simp) (by simp) (by simp)
  ·exact(thn3 (thn3 (thn3 (thn3 B5.out (bel1 _ _)) (bel1 _ _)) (bel1 _ _) |>.trans (C7.out.bel (by simp;omega) (fun k hk q=>by omega)) |>.trans (C8.out.bel (by have:=C7.out.size;simp at this;omega) (fun k hk q=>by omega))) (bel1 _ _)).trans (C9.bel (by simp;omega) (fun k hk q=>by omega))
 ·have ct:=C7.out.size;simp at ct;have V7:=zaa (C7.out.row (RowIs.keep (RowIs.keep (show RowIs _ w5.heap.size 73 [.int .i64 (1+(na:Int)),.int .i64 0,.int .i64 1,.slice (some ⟨g1,0,none⟩) 2 2,.int .i64 (1+(nb:Int)),.int .i64 0,.int .i64 1,.slice (some ⟨g2,0,none⟩) 2 2]from zbt w5 _) (bel1 _ _)) (bel1 _ _)) (by omega));have lg2:=A4.out.lt;have G7:=zaa (C7.out.row (RowIs.keep (RowIs.keep (RowIs.keep A4.out (bel1 _ _)) (bel1 _ _)) (bel1 _ _)) (by omega));have v7:=V7.out.cell (j:=7) rfl;have v7':w7.drew.cell? ⟨w5.heap.size,7,none⟩=some (.slice (some ⟨g2,0,none⟩) 2 2):=v7;have l7:=R7.out.lt;clear k0 k1;refine wp_region_held_drew (S:=fun w'=>w'.cell? ⟨w5.heap.size+1,2,none⟩=some (.slice (some ⟨w5.heap.size,0,none⟩) 2 2)) (by kernel_rfl) k2 (fun hHeld=>?_);refine wpAnyH_take (i:=0) (v:=?_) rfl (by kernel_rfl) (by kernel_rfl) (by kernel_rfl) (fun _ _ _ h=>h) (qe ⟨by rfl,?_⟩) (by assumption) ?_;rotate_left
  ·intro w9 hSw
   (try dsimp only at hSw)
   go_simp
   all_goals with_reducible rfl
  (try simp only[xu,xe,xj,xm,xh,xf,xg])
  refine wpAnyH_take (i:=1) (v:=?_) rfl (by kernel_rfl) (by kernel_rfl) (by kernel_rfl) (fun _ _ _ h=>h) (qe ⟨by rfl,?_⟩) (by assumption) ?_;rotate_left
  ·intro w9 hSw
   (try dsimp only at hSw)
   go_simp
   all_goals with_reducible rfl
  (try simp only[xu,xe,xj,xm,xh,xf,xg])
  refine wpAnyH_take (i:=2) (v:=?_) rfl (by kernel_rfl) (by kernel_rfl) (by kernel_rfl) (fun _ _ _ h=>h) (qe ⟨by rfl,?_⟩) (by assumption) ?_;rotate_left
  ·intro w9 hSw
   (try dsimp only at hSw)
   go_simp
   all_goals with_reducible rfl
  (try simp only[xu,xe,xj,xm,xh,xf,xg])
  refine wpAnyH_take (i:=3) (v:=?_) rfl (by kernel_rfl) (by kernel_rfl) (by kernel_rfl) (fun _ _ _ h=>h) (qe ⟨by rfl,?_⟩) (by assumption) ?_;rotate_left
  ·intro w9 hSw
   (try dsimp only at hSw)
   go_simp
   all_goals with_reducible rfl
  (try simp only[xu,xe,xj,xm,xh,xf,xg])
  refine wpAnyH_take (i:=4) (v:=?_) rfl (by kernel_rfl) (by kernel_rfl) (by kernel_rfl) (fun _ _ _ h=>h) (qe ⟨by rfl,?_⟩) (by assumption) ?_;rotate_left
  ·intro w9 hSw
   (try dsimp only at hSw)
   go_simp
   all_goals with_reducible rfl
  (try simp only[xu,xe,xj,xm,xh,xf,xg])
  refine wpAnyH_take (i:=5) (v:=?_) rfl (by kernel_rfl) (by kernel_rfl) (by kernel_rfl) (fun _ _ _ h=>h) (qe ⟨by rfl,?_⟩) (by assumption) ?_;rotate_left
  ·intro w9 hSw
   (try dsimp only at hSw)
   go_simp
   all_goals with_reducible rfl
  (try simp only[xu,xe,xj,xm,xh,xf,xg])
  refine wpAnyH_ready (rs:=[6,7]) (by kernel_rfl) (by simp) ?_;refine xq rfl (fun K hK=>?_) (xq rfl (fun K hK=>?_) xy)
  ·skip
   go_simp
   refine hK.out _ _ k2 (fun hHeld=>?_);clear hK K
   (try simp only[xu,xe,xj,xm,xh,xf,xg])
   refine wpAnyH_ready (rs:=[7]) (by kernel_rfl) (by simp) ?_;refine xq rfl (fun K hK=>?_) xy
   go_simp
   go_at_call 45
   refine(rD _).mono ?_;rintro e w8 ⟨q1,rfl,hq1,hb8⟩
   (try go_wp2_with fail)
   have t2:=zab hb8 (show w7.drew.cell? _=_ from k2);have t7:=zab hb8 v7';have V8:=zaa ((show RowIs w7.drew w5.heap.size 73 _ from V7.out).keep hb8);have R8:=zaa ((show RowIs w7.drew (w5.heap.size+1) 26 _ from R7.out).keep hb8);have G8:=zaa ((show RowIs w7.drew g2 108 _ from G7.out).keep hb8);have Q1:=zaa hq1;have l8:=R8.out.lt;have l85:=V8.out.lt;clear hq1;refine hK.out _ _ t2 (fun hHeld=>?_);clear hK K
   (try simp only[xu,xe,xj,xm,xh,xf,xg])
   refine wpAnyH_ready (rs:=[8]) (by kernel_rfl) (by simp) ?_;refine xq rfl (fun K hK=>?_) xy
   go_simp
   refine hK.out _ _ (zah _ t2) (fun hHeld=>?_);clear hK K
   (try simp only[xu,xe,xj,xm,xh,xf,xg])
   refine wpAnyH_ready (rs:=[9]) (by kernel_rfl) (by simp) ?_;refine xq rfl (fun K hK=>?_) xy;refine step_append_lies _ (by rfl) _ _ _ (by rfl) 0 108 iR _ 1 24 Tryz.underlying71 hiR zR0 zR1 zR2 rfl (by omega) (.slice (some ⟨g2,0,none⟩) 2 2) 2 [.slice (some ⟨a3,0,none⟩) 1 1,.slice (some ⟨a4,0,none⟩) 1 1] (by rfl) (zlc (RowIs.keep G8.out (bel1 _ _))) ⟨w8.heap.size,0,none⟩ 1 1 [.slice (some ⟨q1,0,none⟩) 1 1] (by rfl) (by rfl) (qd (heap_alloc_new w8 _)) (by simp[qg]) (by omega) (by unfold maxLen;omega) (by omega) (by omega) (w8.heap.size+1) (by simp) ?_;intro g3 cap3 w10 hown3 hgr3 hat3 hlt3;have V10:=zaa ((V8.out.keep (bel1 w8 (.cells #[.slice (some ⟨q1,0,none⟩) 1 1] 108))).grown hgr3 (fun e=>by simp[xv]at e;omega));have R10:=zaa ((R8.out.keep (bel1 w8 (.cells #[.slice (some ⟨q1,0,none⟩) 1 1] 108))).grown hgr3 (fun e=>by simp[xv]at e;omega));have m7:=V10.out.cell (j:=7) rfl;have f7:=V10.out.frozen 7;have r2:=R10.out.cell (j:=2) rfl;have HO3:=zaa hown3;have HG3:=zaa hgr3;clear hown3 hgr3;refine hK.out _ _ r2 (fun hHeld=>?_);clear hK K
   (try simp only[xu,xe,xj,xm,xh,xf,xg])
   refine wpAnyH_take (i:=10) (v:=?_) rfl (by kernel_rfl) (by kernel_rfl) (by kernel_rfl) (fun _ _ _ h=>h) (qe ⟨by rfl,?_⟩) (by assumption) ?_;rotate_left
   ·intro w9 hSw
    (try dsimp only at hSw)
    go_simp
    all_goals with_reducible rfl
   (try simp only[xu,xe,xj,xm,xh,xf,xg])
   refine wpAnyH_take (i:=11) (v:=?_) rfl (by kernel_rfl) (by kernel_rfl) (by kernel_rfl) (fun _ _ _ h=>h) (qe ⟨by rfl,?_⟩) (by assumption) ?_;rotate_left
   ·intro w9 hSw
    (try dsimp only at hSw)
    go_simp
    all_goals with_reducible rfl
   (try simp only[xu,xe,xj,xm,xh,xf,xg])
   refine wpAnyH_ready (rs:=[12]) (by kernel_rfl) (by simp) ?_;refine xq rfl (fun K hK=>?_) xy
   go_simp
   refine hK.out _ _ ((R10.out.setOther (p:=⟨w5.heap.size,7,none⟩) (by show w5.heap.size≠w5.heap.size+1;omega) _).cell (j:=2) rfl) (fun hHeld=>?_);clear hK K;refine wpAnyH_done (by kernel_rfl) ?_ _;have R11:=zaa (R10.out.setOther (p:=⟨w5.heap.size,7,none⟩) (by show w5.heap.size≠w5.heap.size+1;omega) (.slice (some ⟨g3,0,none⟩) 3 cap3));have V11:=zaa (V10.out.set 7 (.slice (some ⟨g3,0,none⟩) 3 cap3));have j0:=R11.out.cell (j:=0) rfl;have j1:=R11.out.cell (j:=1) rfl;have j2:=R11.out.cell (j:=2) rfl;have CH:=zaa (show Chg (fun b=>b=w5.heap.size\/b=g2) w7 (w10.setCell ⟨w5.heap.size,7,none⟩ (.slice (some ⟨g3,0,none⟩) 3 cap3)) from(((Chg.of (S:=fun b=>b=w5.heap.size\/b=g2) (w:=w7) (w':=w8) ⟨hb8.os,hb8.tape,hb8.output,hb8.size,hb8.block⟩).alloc _).grown HG3.out (fun k hk=>by simp[xv]at hk;exact .inl (.inr hk.symm))).set (p:=⟨w5.heap.size,7,none⟩) (.inl (.inl rfl)) _);have O11:=zaa (((Chg.refl (·= w5.heap.size) w10).set (p:=⟨w5.heap.size,7,none⟩) (.inl rfl) (.slice (some ⟨g3,0,none⟩) 3 cap3)).own HO3.out (zbw HO3.out V10.out (by decide)));have Q11:=zaa (((Q1.out.keep (bel1 w8 (.cells #[.slice (some ⟨q1,0,none⟩) 1 1] 108))).grown HG3.out (fun e=>by simp[xv]at e;exact Q1.out.ne G8.out (by decide) e.symm)).setOther (p:=⟨w5.heap.size,7,none⟩) (fun q=>Q1.out.ne V8.out (by decide) q.symm) (.slice (some ⟨g3,0,none⟩) 3 cap3));clear hHeld m7 f7 r2 V8 R8 G8 Q1 V10 R10 HO3 HG3 t2 t7 v7 v7' k2;generalize w10.setCell ⟨w5.heap.size,7,none⟩ (.slice (some ⟨g3,0,none⟩) 3 cap3)=w11 at *;have hcs:=CH.out.size;have ng:g2≠w.heap.size:=A4.out.ne Z5.out (by decide);have ZW:=zaa (CH.out.row (C7.out.row (RowIs.keep (RowIs.keep (RowIs.keep Z5.out (bel1 _ _)) (bel1 _ _)) (bel1 _ _)) (by omega)) (by omega))
   go_wp2_with (refine zdd rfl 26 _ _ rfl w.heap.size [.slice (some ⟨w5.heap.size+2,0,none⟩) 3 3,.slice (some ⟨w.heap.size+1,0,none⟩) 1 1,.slice (some ⟨w5.heap.size,0,none⟩) 2 2] nilF _ rfl rfl (RowIs.keep ZW.out (bel1 _ _)) rfl Tryz.infoFlt3 one3 ?_;intro w12 R12 C12;(try simp only[xu,xe,xj,xm,xh,xf,xg]))
   have tr:∀ {b:Nat} {t:TypeId} {cs:List Value},RowIs w5 b t cs->t≠26->b≠g2->RowIs w12 b t cs:=fun {b t cs} h ht hg=>by
    have l:=h.lt;exact C12.row (RowIs.keep (CH.out.row (C7.out.row (RowIs.keep (RowIs.keep (RowIs.keep h (bel1 _ _)) (bel1 _ _)) (bel1 _ _)) (by omega)) (by omega)) (bel1 _ _)) (fun q=>h.ne Z5.out ht q)
   have o0:=R12.cell (j:=0) rfl;have o1:=R12.cell (j:=1) rfl;have o2:=R12.cell (j:=2) rfl;refine bodyPost_ret (v:=.tuple #[.agg #[.slice (some ⟨w5.heap.size+2,0,none⟩) 3 3,.slice (some ⟨w.heap.size+1,0,none⟩) 1 1,.slice (some ⟨w5.heap.size,0,none⟩) 2 2],.slice (some ⟨w11.heap.size,0,none⟩) 3 3]) (by simp[results,Tryz.results19,go_sem,o0,o1,o2]) rfl ?_;have sS:=C12.row (RowIs.keep (CH.out.row (C7.out.row (show RowIs _ (w5.heap.size+2) 9 _ from nw3' w5 _ _ _) (by omega)) (by omega)) (bel1 _ _)) (by omega);have sV:=C12.row (RowIs.keep V11.out (bel1 _ _)) (by omega);have sM:=C12.row (show RowIs _ w11.heap.size 62 _ from zbt w11 _) (by omega);have sQ:=C12.row (RowIs.keep Q11.out (bel1 _ _)) (fun q=>Q11.out.ne ZW.out (by decide) q);have sO:=C12.own (zas O11.out (bel1 w11 _)) (fun g hg q=>zbw O11.out ZW.out (by decide) g hg q);have tn:∀ {b:Nat} {cs:List Value},RowIs w5 b 165 cs->b≠g2:=fun h=>h.ne A4.out (by decide);have t5:w.heap.size+1≠g2:=T5.out.ne A4.out (by decide);have g12:g1≠g2:=fun q=>by
    have h1:=A1.out;rw[q]at h1;have h2:=A4.out;unfold RowIs at h1 h2;rw[h1]at h2;simp at h2;have h3:=A2.out;have h4:=A5.out;rw[h2.1]at h3;unfold RowIs at h3 h4;rw[h3]at h4;simp at h4
   refine⟨_,3,3,_,1,1,_,2,2,_,3,rfl,zew (f:=tlF 3 _ _ _) (L:=[(svW (1+(na:Int)),g1,2),(svR3 (1+(nb:Int)),g3,cap3)]) sS (tr T5.out (by decide) t5) sV (fun q hq=>?_) rfl rfl (zcs _ _ _ _).1 (zcs _ _ _ _).2 (by simp) 3 1 2,zez sM,?_⟩
   ·simp only[xp,xo,or_false]at hq;rcases hq with rfl|rfl
    ·exact zds (L:=[(a1,⟨0,0,-1⟩),(a2,⟨0,1,-1⟩)]) (tr A1.out (by decide) g12) (fun q hq=>by
      simp only[xp,xo,or_false]at hq;rcases hq with rfl|rfl
      ·exact tr A2.out (by decide) (tn A2.out)
      ·exact tr A3.out (by decide) (tn A3.out)) (by simp) (by simp) (by simp)
    ·exact zla (L:=[(a3,⟨0,-1,0⟩),(a4,⟨0,-1,1⟩),(q1,⟨0,-1,2⟩)]) sO (fun q hq=>by
      simp only[xp,xo,or_false]at hq;rcases hq with rfl|rfl|rfl
      ·exact tr A5.out (by decide) (tn A5.out)
      ·exact tr A6.out (by decide) (tn A6.out)
      ·exact sQ) (by simp)
   ·have u1:=thn3 (thn3 (thn3 B5.out (bel1 _ _)) (bel1 _ _)) (bel1 _ _) |>.trans (C7.out.bel (by simp;omega) (fun k hk q=>by omega));have lg:w.heap.size<=g2:=lg2w.out;have u2:=u1.trans (CH.out.bel (by omega) (fun k hk q=>by omega));exact(thn3 u2 (bel1 _ _)).trans (C12.bel (by simp;omega) (fun k hk q=>by omega))
  ·skip
   go_simp
   go_at_call 45
   refine(rD _).mono ?_;rintro e w8 ⟨q1,rfl,hq1,hb8⟩
   (try go_wp2_with fail)
   have t2:=zab hb8 (show w7.drew.cell? _=_ from k2);have t7:=zab hb8 v7';have V8:=zaa ((show RowIs w7.drew w5.heap.size 73 _ from V7.out).keep hb8);have R8:=zaa ((show RowIs w7.drew (w5.heap.size+1) 26 _ from R7.out).keep hb8);have G8:=zaa ((show RowIs w7.drew g2 108 _ from G7.out).keep hb8);have Q1:=zaa hq1;have l8:=R8.out.lt;have l85:=V8.out.lt;clear hq1;refine hK.out _ _ t2 (fun hHeld=>?_);clear hK K
   (try simp only[xu,xe,xj,xm,xh,xf,xg])
   refine wpAnyH_ready (rs:=[6,8]) (by kernel_rfl) (by simp) ?_;refine xq rfl (fun K hK=>?_) (xq rfl (fun K hK=>?_) xy)
   ·skip
    go_simp
    refine hK.out _ _ t2 (fun hHeld=>?_);clear hK K
    (try simp only[xu,xe,xj,xm,xh,xf,xg])
    refine wpAnyH_ready (rs:=[8]) (by kernel_rfl) (by simp) ?_;refine xq rfl (fun K hK=>?_) xy
    go_simp
    refine hK.out _ _ (zah _ t2) (fun hHeld=>?_);clear hK K
    (try simp only[xu,xe,xj,xm,xh,xf,xg])
    refine wpAnyH_ready (rs:=[9]) (by kernel_rfl) (by simp) ?_;refine xq rfl (fun K hK=>?_) xy;refine step_append_lies _ (by rfl) _ _ _ (by rfl) 0 108 iR _ 1 24 Tryz.underlying71 hiR zR0 zR1 zR2 rfl (by omega) (.slice (some ⟨g2,0,none⟩) 2 2) 2 [.slice (some ⟨a3,0,none⟩) 1 1,.slice (some ⟨a4,0,none⟩) 1 1] (by rfl) (zlc (RowIs.keep G8.out (bel1 _ _))) ⟨w8.heap.size,0,none⟩ 1 1 [.slice (some ⟨q1,0,none⟩) 1 1] (by rfl) (by rfl) (qd (heap_alloc_new w8 _)) (by simp[qg]) (by omega) (by unfold maxLen;omega) (by omega) (by omega) (w8.heap.size+1) (by simp) ?_;intro g3 cap3 w10 hown3 hgr3 hat3 hlt3;have V10:=zaa ((V8.out.keep (bel1 w8 (.cells #[.slice (some ⟨q1,0,none⟩) 1 1] 108))).grown hgr3 (fun e=>by simp[xv]at e;omega));have R10:=zaa ((R8.out.keep (bel1 w8 (.cells #[.slice (some ⟨q1,0,none⟩) 1 1] 108))).grown hgr3 (fun e=>by simp[xv]at e;omega));have m7:=V10.out.cell (j:=7) rfl;have f7:=V10.out.frozen 7;have r2:=R10.out.cell (j:=2) rfl;have HO3:=zaa hown3;have HG3:=zaa hgr3;clear hown3 hgr3;refine hK.out _ _ r2 (fun hHeld=>?_);clear hK K
    (try simp only[xu,xe,xj,xm,xh,xf,xg])
    refine wpAnyH_take (i:=10) (v:=?_) rfl (by kernel_rfl) (by kernel_rfl) (by kernel_rfl) (fun _ _ _ h=>h) (qe ⟨by rfl,?_⟩) (by assumption) ?_;rotate_left
    ·intro w9 hSw
     (try dsimp only at hSw)
     go_simp
     all_goals with_reducible rfl
    (try simp only[xu,xe,xj,xm,xh,xf,xg])
    refine wpAnyH_take (i:=11) (v:=?_) rfl (by kernel_rfl) (by kernel_rfl) (by kernel_rfl) (fun _ _ _ h=>h) (qe ⟨by rfl,?_⟩) (by assumption) ?_;rotate_left
    ·intro w9 hSw
     (try dsimp only at hSw)
     go_simp
     all_goals with_reducible rfl
    (try simp only[xu,xe,xj,xm,xh,xf,xg])
    refine wpAnyH_ready (rs:=[12]) (by kernel_rfl) (by simp) ?_;refine xq rfl (fun K hK=>?_) xy
    go_simp
    refine hK.out _ _ ((R10.out.setOther (p:=⟨w5.heap.size,7,none⟩) (by show w5.heap.size≠w5.heap.size+1;omega) _).cell (j:=2) rfl) (fun hHeld=>?_);clear hK K;refine wpAnyH_done (by kernel_rfl) ?_ _;have R11:=zaa (R10.out.setOther (p:=⟨w5.heap.size,7,none⟩) (by show w5.heap.size≠w5.heap.size+1;omega) (.slice (some ⟨g3,0,none⟩) 3 cap3));have V11:=zaa (V10.out.set 7 (.slice (some ⟨g3,0,none⟩) 3 cap3));have j0:=R11.out.cell (j:=0) rfl;have j1:=R11.out.cell (j:=1) rfl;have j2:=R11.out.cell (j:=2) rfl;have CH:=zaa (show Chg (fun b=>b=w5.heap.size\/b=g2) w7 (w10.setCell ⟨w5.heap.size,7,none⟩ (.slice (some ⟨g3,0,none⟩) 3 cap3)) from(((Chg.of (S:=fun b=>b=w5.heap.size\/b=g2) (w:=w7) (w':=w8) ⟨hb8.os,hb8.tape,hb8.output,hb8.size,hb8.block⟩).alloc _).grown HG3.out (fun k hk=>by simp[xv]at hk;exact .inl (.inr hk.symm))).set (p:=⟨w5.heap.size,7,none⟩) (.inl (.inl rfl)) _);have O11:=zaa (((Chg.refl (·= w5.heap.size) w10).set (p:=⟨w5.heap.size,7,none⟩) (.inl rfl) (.slice (some ⟨g3,0,none⟩) 3 cap3)).own HO3.out (zbw HO3.out V10.out (by decide)));have Q11:=zaa (((Q1.out.keep (bel1 w8 (.cells #[.slice (some ⟨q1,0,none⟩) 1 1] 108))).grown HG3.out (fun e=>by simp[xv]at e;exact Q1.out.ne G8.out (by decide) e.symm)).setOther (p:=⟨w5.heap.size,7,none⟩) (fun q=>Q1.out.ne V8.out (by decide) q.symm) (.slice (some ⟨g3,0,none⟩) 3 cap3));clear hHeld m7 f7 r2 V8 R8 G8 Q1 V10 R10 HO3 HG3 t2 t7 v7 v7' k2;generalize w10.setCell ⟨w5.heap.size,7,none⟩ (.slice (some ⟨g3,0,none⟩) 3 cap3)=w11 at *;have hcs:=CH.out.size;have ng:g2≠w.heap.size:=A4.out.ne Z5.out (by decide);have ZW:=zaa (CH.out.row (C7.out.row (RowIs.keep (RowIs.keep (RowIs.keep Z5.out (bel1 _ _)) (bel1 _ _)) (bel1 _ _)) (by omega)) (by omega))
    go_wp2_with (refine zdd rfl 26 _ _ rfl w.heap.size [.slice (some ⟨w5.heap.size+2,0,none⟩) 3 3,.slice (some ⟨w.heap.size+1,0,none⟩) 1 1,.slice (some ⟨w5.heap.size,0,none⟩) 2 2] nilF _ rfl rfl (RowIs.keep ZW.out (bel1 _ _)) rfl Tryz.infoFlt3 one3 ?_;intro w12 R12 C12;(try simp only[xu,xe,xj,xm,xh,xf,xg]))
    have tr:∀ {b:Nat} {t:TypeId} {cs:List Value},RowIs w5 b t cs->t≠26->b≠g2->RowIs w12 b t cs:=fun {b t cs} h ht hg=>by
     have l:=h.lt;exact C12.row (RowIs.keep (CH.out.row (C7.out.row (RowIs.keep (RowIs.keep (RowIs.keep h (bel1 _ _)) (bel1 _ _)) (bel1 _ _)) (by omega)) (by omega)) (bel1 _ _)) (fun q=>h.ne Z5.out ht q)
    have o0:=R12.cell (j:=0) rfl;have o1:=R12.cell (j:=1) rfl;have o2:=R12.cell (j:=2) rfl;refine bodyPost_ret (v:=.tuple #[.agg #[.slice (some ⟨w5.heap.size+2,0,none⟩) 3 3,.slice (some ⟨w.heap.size+1,0,none⟩) 1 1,.slice (some ⟨w5.heap.size,0,none⟩) 2 2],.slice (some ⟨w11.heap.size,0,none⟩) 3 3]) (by simp[results,Tryz.results19,go_sem,o0,o1,o2]) rfl ?_;have sS:=C12.row (RowIs.keep (CH.out.row (C7.out.row (show RowIs _ (w5.heap.size+2) 9 _ from nw3' w5 _ _ _) (by omega)) (by omega)) (bel1 _ _)) (by omega);have sV:=C12.row (RowIs.keep V11.out (bel1 _ _)) (by omega);have sM:=C12.row (show RowIs _ w11.heap.size 62 _ from zbt w11 _) (by omega);have sQ:=C12.row (RowIs.keep Q11.out (bel1 _ _)) (fun q=>Q11.out.ne ZW.out (by decide) q);have sO:=C12.own (zas O11.out (bel1 w11 _)) (fun g hg q=>zbw O11.out ZW.out (by decide) g hg q);have tn:∀ {b:Nat} {cs:List Value},RowIs w5 b 165 cs->b≠g2:=fun h=>h.ne A4.out (by decide);have t5:w.heap.size+1≠g2:=T5.out.ne A4.out (by decide);have g12:g1≠g2:=fun q=>by
     have h1:=A1.out;rw[q]at h1;have h2:=A4.out;unfold RowIs at h1 h2;rw[h1]at h2;simp at h2;have h3:=A2.out;have h4:=A5.out;rw[h2.1]at h3;unfold RowIs at h3 h4;rw[h3]at h4;simp at h4
    refine⟨_,3,3,_,1,1,_,2,2,_,3,rfl,zew (f:=tlF 3 _ _ _) (L:=[(svW (1+(na:Int)),g1,2),(svR3 (1+(nb:Int)),g3,cap3)]) sS (tr T5.out (by decide) t5) sV (fun q hq=>?_) rfl rfl (zcs _ _ _ _).1 (zcs _ _ _ _).2 (by simp) 3 1 2,zez sM,?_⟩
    ·simp only[xp,xo,or_false]at hq;rcases hq with rfl|rfl
     ·exact zds (L:=[(a1,⟨0,0,-1⟩),(a2,⟨0,1,-1⟩)]) (tr A1.out (by decide) g12) (fun q hq=>by
       simp only[xp,xo,or_false]at hq;rcases hq with rfl|rfl
       ·exact tr A2.out (by decide) (tn A2.out)
       ·exact tr A3.out (by decide) (tn A3.out)) (by simp) (by simp) (by simp)
     ·exact zla (L:=[(a3,⟨0,-1,0⟩),(a4,⟨0,-1,1⟩),(q1,⟨0,-1,2⟩)]) sO (fun q hq=>by
       simp only[xp,xo,or_false]at hq;rcases hq with rfl|rfl|rfl
       ·exact tr A5.out (by decide) (tn A5.out)
       ·exact tr A6.out (by decide) (tn A6.out)
       ·exact sQ) (by simp)
    ·have u1:=thn3 (thn3 (thn3 B5.out (bel1 _ _)) (bel1 _ _)) (bel1 _ _) |>.trans (C7.out.bel (by simp;omega) (fun k hk q=>by omega));have lg:w.heap.size<=g2:=lg2w.out;have u2:=u1.trans (CH.out.bel (by omega) (fun k hk q=>by omega));exact(thn3 u2 (bel1 _ _)).trans (C12.bel (by simp;omega) (fun k hk q=>by omega))
   ·skip
    go_simp
    refine hK.out _ _ (zah _ t2) (fun hHeld=>?_);clear hK K
    (try simp only[xu,xe,xj,xm,xh,xf,xg])
    refine wpAnyH_ready (rs:=[6]) (by kernel_rfl) (by simp) ?_;refine xq rfl (fun K hK=>?_) xy
    go_simp
    refine hK.out _ _ (zah _ t2) (fun hHeld=>?_);clear hK K
    (try simp only[xu,xe,xj,xm,xh,xf,xg])
    refine wpAnyH_ready (rs:=[9]) (by kernel_rfl) (by simp) ?_;refine xq rfl (fun K hK=>?_) xy;refine step_append_lies _ (by rfl) _ _ _ (by rfl) 0 108 iR _ 1 24 Tryz.underlying71 hiR zR0 zR1 zR2 rfl (by omega) (.slice (some ⟨g2,0,none⟩) 2 2) 2 [.slice (some ⟨a3,0,none⟩) 1 1,.slice (some ⟨a4,0,none⟩) 1 1] (by rfl) (zlc (RowIs.keep G8.out (bel1 _ _))) ⟨w8.heap.size,0,none⟩ 1 1 [.slice (some ⟨q1,0,none⟩) 1 1] (by rfl) (by rfl) (qd (heap_alloc_new w8 _)) (by simp[qg]) (by omega) (by unfold maxLen;omega) (by omega) (by omega) (w8.heap.size+1) (by simp) ?_;intro g3 cap3 w10 hown3 hgr3 hat3 hlt3;have V10:=zaa ((V8.out.keep (bel1 w8 (.cells #[.slice (some ⟨q1,0,none⟩) 1 1] 108))).grown hgr3 (fun e=>by simp[xv]at e;omega));have R10:=zaa ((R8.out.keep (bel1 w8 (.cells #[.slice (some ⟨q1,0,none⟩) 1 1] 108))).grown hgr3 (fun e=>by simp[xv]at e;omega));have m7:=V10.out.cell (j:=7) rfl;have f7:=V10.out.frozen 7;have r2:=R10.out.cell (j:=2) rfl;have HO3:=zaa hown3;have HG3:=zaa hgr3;clear hown3 hgr3;refine hK.out _ _ r2 (fun hHeld=>?_);clear hK K
    (try simp only[xu,xe,xj,xm,xh,xf,xg])
    refine wpAnyH_take (i:=10) (v:=?_) rfl (by kernel_rfl) (by kernel_rfl) (by kernel_rfl) (fun _ _ _ h=>h) (qe ⟨by rfl,?_⟩) (by assumption) ?_;rotate_left
    ·intro w9 hSw
     (try dsimp only at hSw)
     go_simp
     all_goals with_reducible rfl
    (try simp only[xu,xe,xj,xm,xh,xf,xg])
    refine wpAnyH_take (i:=11) (v:=?_) rfl (by kernel_rfl) (by kernel_rfl) (by kernel_rfl) (fun _ _ _ h=>h) (qe ⟨by rfl,?_⟩) (by assumption) ?_;rotate_left
    ·intro w9 hSw
     (try dsimp only at hSw)
     go_simp
     all_goals with_reducible rfl
    (try simp only[xu,xe,xj,xm,xh,xf,xg])
    refine wpAnyH_ready (rs:=[12]) (by kernel_rfl) (by simp) ?_;refine xq rfl (fun K hK=>?_) xy
    go_simp
    refine hK.out _ _ ((R10.out.setOther (p:=⟨w5.heap.size,7,none⟩) (by show w5.heap.size≠w5.heap.size+1;omega) _).cell (j:=2) rfl) (fun hHeld=>?_);clear hK K;refine wpAnyH_done (by kernel_rfl) ?_ _;have R11:=zaa (R10.out.setOther (p:=⟨w5.heap.size,7,none⟩) (by show w5.heap.size≠w5.heap.size+1;omega) (.slice (some ⟨g3,0,none⟩) 3 cap3));have V11:=zaa (V10.out.set 7 (.slice (some ⟨g3,0,none⟩) 3 cap3));have j0:=R11.out.cell (j:=0) rfl;have j1:=R11.out.cell (j:=1) rfl;have j2:=R11.out.cell (j:=2) rfl;have CH:=zaa (show Chg (fun b=>b=w5.heap.size\/b=g2) w7 (w10.setCell ⟨w5.heap.size,7,none⟩ (.slice (some ⟨g3,0,none⟩) 3 cap3)) from(((Chg.of (S:=fun b=>b=w5.heap.size\/b=g2) (w:=w7) (w':=w8) ⟨hb8.os,hb8.tape,hb8.output,hb8.size,hb8.block⟩).alloc _).grown HG3.out (fun k hk=>by simp[xv]at hk;exact .inl (.inr hk.symm))).set (p:=⟨w5.heap.size,7,none⟩) (.inl (.inl rfl)) _);have O11:=zaa (((Chg.refl (·= w5.heap.size) w10).set (p:=⟨w5.heap.size,7,none⟩) (.inl rfl) (.slice (some ⟨g3,0,none⟩) 3 cap3)).own HO3.out (zbw HO3.out V10.out (by decide)));have Q11:=zaa (((Q1.out.keep (bel1 w8 (.cells #[.slice (some ⟨q1,0,none⟩) 1 1] 108))).grown HG3.out (fun e=>by simp[xv]at e;exact Q1.out.ne G8.out (by decide) e.symm)).setOther (p:=⟨w5.heap.size,7,none⟩) (fun q=>Q1.out.ne V8.out (by decide) q.symm) (.slice (some ⟨g3,0,none⟩) 3 cap3));clear hHeld m7 f7 r2 V8 R8 G8 Q1 V10 R10 HO3 HG3 t2 t7 v7 v7' k2;generalize w10.setCell ⟨w5.heap.size,7,none⟩ (.slice (some ⟨g3,0,none⟩) 3 cap3)=w11 at *;have hcs:=CH.out.size;have ng:g2≠w.heap.size:=A4.out.ne Z5.out (by decide);have ZW:=zaa (CH.out.row (C7.out.row (RowIs.keep (RowIs.keep (RowIs.keep Z5.out (bel1 _ _)) (bel1 _ _)) (bel1 _ _)) (by omega)) (by omega))
    go_wp2_with (refine zdd rfl 26 _ _ rfl w.heap.size [.slice (some ⟨w5.heap.size+2,0,none⟩) 3 3,.slice (some ⟨w.heap.size+1,0,none⟩) 1 1,.slice (some ⟨w5.heap.size,0,none⟩) 2 2] nilF _ rfl rfl (RowIs.keep ZW.out (bel1 _ _)) rfl Tryz.infoFlt3 one3 ?_;intro w12 R12 C12;(try simp only[xu,xe,xj,xm,xh,xf,xg]))
    have tr:∀ {b:Nat} {t:TypeId} {cs:List Value},RowIs w5 b t cs->t≠26->b≠g2->RowIs w12 b t cs:=fun {b t cs} h ht hg=>by
     have l:=h.lt;exact C12.row (RowIs.keep (CH.out.row (C7.out.row (RowIs.keep (RowIs.keep (RowIs.keep h (bel1 _ _)) (bel1 _ _)) (bel1 _ _)) (by omega)) (by omega)) (bel1 _ _)) (fun q=>h.ne Z5.out ht q)
    have o0:=R12.cell (j:=0) rfl;have o1:=R12.cell (j:=1) rfl;have o2:=R12.cell (j:=2) rfl;refine bodyPost_ret (v:=.tuple #[.agg #[.slice (some ⟨w5.heap.size+2,0,none⟩) 3 3,.slice (some ⟨w.heap.size+1,0,none⟩) 1 1,.slice (some ⟨w5.heap.size,0,none⟩) 2 2],.slice (some ⟨w11.heap.size,0,none⟩) 3 3]) (by simp[results,Tryz.results19,go_sem,o0,o1,o2]) rfl ?_;have sS:=C12.row (RowIs.keep (CH.out.row (C7.out.row (show RowIs _ (w5.heap.size+2) 9 _ from nw3' w5 _ _ _) (by omega)) (by omega)) (bel1 _ _)) (by omega);have sV:=C12.row (RowIs.keep V11.out (bel1 _ _)) (by omega);have sM:=C12.row (show RowIs _ w11.heap.size 62 _ from zbt w11 _) (by omega);have sQ:=C12.row (RowIs.keep Q11.out (bel1 _ _)) (fun q=>Q11.out.ne ZW.out (by decide) q);have sO:=C12.own (zas O11.out (bel1 w11 _)) (fun g hg q=>zbw O11.out ZW.out (by decide) g hg q);have tn:∀ {b:Nat} {cs:List Value},RowIs w5 b 165 cs->b≠g2:=fun h=>h.ne A4.out (by decide);have t5:w.heap.size+1≠g2:=T5.out.ne A4.out (by decide);have g12:g1≠g2:=fun q=>by
     have h1:=A1.out;rw[q]at h1;have h2:=A4.out;unfold RowIs at h1 h2;rw[h1]at h2;simp at h2;have h3:=A2.out;have h4:=A5.out;rw[h2.1]at h3;unfold RowIs at h3 h4;rw[h3]at h4;simp at h4
    refine⟨_,3,3,_,1,1,_,2,2,_,3,rfl,zew (f:=tlF 3 _ _ _) (L:=[(svW (1+(na:Int)),g1,2),(svR3 (1+(nb:Int)),g3,cap3)]) sS (tr T5.out (by decide) t5) sV (fun q hq=>?_) rfl rfl (zcs _ _ _ _).1 (zcs _ _ _ _).2 (by simp) 3 1 2,zez sM,?_⟩
    ·simp only[xp,xo,or_false]at hq;rcases hq with rfl|rfl
     ·exact zds (L:=[(a1,⟨0,0,-1⟩),(a2,⟨0,1,-1⟩)]) (tr A1.out (by decide) g12) (fun q hq=>by
       simp only[xp,xo,or_false]at hq;rcases hq with rfl|rfl
       ·exact tr A2.out (by decide) (tn A2.out)
       ·exact tr A3.out (by decide) (tn A3.out)) (by simp) (by simp) (by simp)
     ·exact zla (L:=[(a3,⟨0,-1,0⟩),(a4,⟨0,-1,1⟩),(q1,⟨0,-1,2⟩)]) sO (fun q hq=>by
       simp only[xp,xo,or_false]at hq;rcases hq with rfl|rfl|rfl
       ·exact tr A5.out (by decide) (tn A5.out)
       ·exact tr A6.out (by decide) (tn A6.out)
       ·exact sQ) (by simp)
    ·have u1:=thn3 (thn3 (thn3 B5.out (bel1 _ _)) (bel1 _ _)) (bel1 _ _) |>.trans (C7.out.bel (by simp;omega) (fun k hk q=>by omega));have lg:w.heap.size<=g2:=lg2w.out;have u2:=u1.trans (CH.out.bel (by omega) (fun k hk q=>by omega));exact(thn3 u2 (bel1 _ _)).trans (C12.bel (by simp;omega) (fun k hk q=>by omega))
 ·have ct:=C7.out.size;have cb:=HB.out.size;have cz:=C11.out.size;simp at ct cz;have tr:∀ {b:Nat} {t:TypeId} {cs:List Value},RowIs w10 b t cs->b≠w5.heap.size+1->b≠w.heap.size->RowIs w12 b t cs:=fun {b t cs} h h1 h2=>by
   exact C12.row (RowIs.keep (C11.out.row (RowIs.keep (RowIs.keep h (bel1 _ _)) (bel1 _ _)) h1) (bel1 _ _)) h2
  have t7:∀ {b:Nat} {t:TypeId} {cs:List Value},RowIs w7 b t cs->b≠w5.heap.size+1->b≠w.heap.size->RowIs w12 b t cs:=fun {b t cs} h h1 h2=>tr (h.keep HB.out) h1 h2;have o0:=R12.cell (j:=0) rfl;have o1:=R12.cell (j:=1) rfl;have o2:=R12.cell (j:=2) rfl;refine bodyPost_ret (v:=.tuple #[.agg #[.slice (some ⟨w5.heap.size+2,0,none⟩) 2 2,.slice (some ⟨w.heap.size+1,0,none⟩) 1 1,.slice (some ⟨w10.heap.size+1,0,none⟩) 1 1],.slice (some ⟨w11.heap.size,0,none⟩) 2 2]) (by simp[results,Tryz.results19,go_sem,o0,o1,o2]) rfl ?_;have sS:=t7 (C7.out.row (show RowIs _ (w5.heap.size+2) 9 _ from nw3' w5 _ _ _) (by omega)) (by omega) (by omega);have sT:=t7 (C7.out.row (RowIs.keep (RowIs.keep (RowIs.keep T5.out (bel1 _ _)) (bel1 _ _)) (bel1 _ _)) (by omega)) (by omega) (by omega);have sR:=C12.row (RowIs.keep (C11.out.row (RowIs.keep (show RowIs _ w10.heap.size 108 _ from zbt w10 _) (bel1 _ _)) (by omega)) (bel1 _ _)) (by omega);have sV:=C12.row (RowIs.keep (C11.out.row (show RowIs _ (w10.heap.size+1) 73 _ from nw2 w10 _ _) (by omega)) (bel1 _ _)) (by omega);have sM:=C12.row (show RowIs _ w11.heap.size 62 _ from zbt w11 _) (by omega);have hz10:=Z11.out;have ne1:∀ {b:Nat} {cs:List Value},RowIs w10 b 165 cs->b≠w5.heap.size+1/\b≠w.heap.size:=fun {b cs} h=>⟨fun q=>h.ne R10.out (by decide) q,fun q=>h.ne (RowIs.keep (C7.out.row (RowIs.keep (RowIs.keep (RowIs.keep Z5.out (bel1 _ _)) (bel1 _ _)) (bel1 _ _)) (by omega)) HB.out) (by decide) q⟩;refine⟨_,2,2,_,1,1,_,1,1,_,2,rfl,zew (f:=tlF 4 _ _ _) (L:=[(svO (1+(na:Int)),w10.heap.size,3)]) sS sT sV (fun q hq=>?_) rfl rfl (zcs _ _ _ _).1 (zcs _ _ _ _).2 (by simp) 2 1 1,zez sM,?_⟩
  ·simp only[xp,xo,or_false]at hq;subst hq;exact zds (L:=[(q1,⟨0,0,0⟩),(q2,⟨0,0,1⟩),(q3,⟨0,1,1⟩)]) sR (fun q hq=>by
     simp only[xp,xo,or_false]at hq;rcases hq with rfl|rfl|rfl
     ·exact tr P1.out (ne1 P1.out).1 (ne1 P1.out).2
     ·exact tr P2.out (ne1 P2.out).1 (ne1 P2.out).2
     ·exact tr Q3.out (ne1 Q3.out).1 (ne1 Q3.out).2) (by simp) (by simp) (by simp)
  ·have u1:=thn3 (thn3 (thn3 B5.out (bel1 _ _)) (bel1 _ _)) (bel1 _ _) |>.trans (C7.out.bel (by simp;omega) (fun k hk q=>by omega));have u2:=thn3 (thn3 (thn3 u1 HB.out) (bel1 _ _)) (bel1 _ _) |>.trans (C11.out.bel (by simp;omega) (fun k hk q=>by omega));exact(thn3 u2 (bel1 _ _)).trans (C12.bel (by simp;omega) (fun k hk q=>by omega))
end Go.Proofs.YtkkekopomiehlabGreatDoor
