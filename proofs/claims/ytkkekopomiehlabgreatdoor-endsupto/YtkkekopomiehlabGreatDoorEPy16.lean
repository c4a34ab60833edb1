import Derived.Test.YtkkekopomiehlabGreatDoorEPy15
import Derived.BigFrame
set_option linter.unusedVariables false
set_option linter.unusedSimpArgs false
set_option maxHeartbeats 40000000
open List renaming getElem?_eq_some_iff->xe,getElem?_append_right->xf,getElem?_eq_getElem->xg,getElem?_append_left->xh,getD_eq_getElem?_getD->xm,flatten_cons->xo,mem_of_getElem?->xq,getElem?_map->xu,getElem?_cons_succ->xv,length_append->xz,length_cons->qd,getD->qg
open Int renaming toNat_natCast->xj
open Bool renaming false_eq_true->xp
open Nat renaming lt_of_lt_of_le->xy,zero_add->qe,le_refl->qf
open Go.RowKit
set_option maxRecDepth 4000
namespace Go.Proofs.YtkkekopomiehlabGreatDoor
section
variable {w W:World}{L L':Nat->Nat}{r:Nat}{P:zad}
theorem zk9 (hok:zhh P)(h:RunE w L r P):Calls Tryz.prog 55 #[.pointer (some ⟨r,0,none⟩)] w fun e W=>e=.returned (.tuple #[])/\Turn w L r W (tckP P):=by
 obtain⟨gt,tc,m,gv,vc,t,s,sv,tv,h⟩:=h;have c1:=(ztx hok h).mono fun e W q=>(⟨q.1,by obtain⟨m2,L2,tv2,k1,k2,k3⟩:=q.2;exact⟨L2,⟨_,_,_,_,_,_,_,_,_,k1⟩,k2,k3⟩⟩:e=Ending.returned (.tuple #[])/\Turn w L r W (tckP P));clear h hok;generalize tckP P=Q at *
 go_enter Tryz.func55,Tryz.ntmps55
 go_wp2_with (first|(go_at_call 118;refine c1.mono ?_;rintro e w1 ⟨rfl,ht1⟩;have HT:=zaa ht1;clear ht1))
 refine bodyPost_end (v:=.tuple #[]) (results_none rfl _ _ _) rfl ?_;exact⟨rfl,HT.out⟩
theorem zq1 (hb:0<=P.ti/\P.ti<=4000000000/\0<=P.c.rest/\P.c.rest<=4000000000)(h:RunE w L r P):Calls Tryz.prog 32 #[.pointer (some ⟨r,0,none⟩)] w fun e W=>e=.returned (.tuple #[])/\Turn w L r W (crsP P):=by
 have c1:=zze hb h;clear h hb;generalize crsP P=Q at *
 go_enter Tryz.func32,Tryz.ntmps32
 go_wp2_with (first|(go_at_call 76;refine c1.mono ?_;rintro e w1 ⟨rfl,ht1⟩;have HT:=zaa ht1;clear ht1))
 refine bodyPost_end (v:=.tuple #[]) (results_none rfl _ _ _) rfl ?_;exact⟨rfl,HT.out⟩
theorem zq4 (on:Bool)(h:RunE w L r P):Calls Tryz.prog 28 #[.pointer (some ⟨r,0,none⟩),.bool on] w fun e W=>(∃ n,e=.returned (.int .i64 n))/\Turn w L r W (if zaj P.c then P else pauP P on):=by
 have c0:=zqb h;have c1:=zzs on h;have HT:=zaa (Turn.of h (Below.refl _ _));clear h;cases ho:zaj P.c with
 |true =>
  rw[ho]at c0;simp only[if_true];clear ho c1
  go_enter Tryz.func28,Tryz.ntmps28
  go_wp2_with (first|(go_at_call 72;refine c0.mono ?_;rintro e _ ⟨rfl,rfl⟩))
  go_ret;exact⟨⟨_,rfl⟩,HT.out⟩
 |false =>
  rw[ho]at c0;simp only[xp,if_false];generalize pauP P on=Q at *;clear ho HT
  go_enter Tryz.func28,Tryz.ntmps28
  go_wp2_with (first|(go_at_call 72;refine c0.mono ?_;rintro e _ ⟨rfl,rfl⟩)|(go_at_call 73;refine c1.mono ?_;rintro e w1 ⟨rfl,ht1⟩;have HT:=zaa ht1;clear ht1))
  go_ret;exact⟨⟨_,rfl⟩,HT.out⟩
def abtE (P:zad):Int:=if zaj P.c then 17 else if P.c.st=2 then 18 else 0
def abtP (P:zad):zad:=if zaj P.c then P else if P.c.st=2 then P else trnP P
theorem zl1 (hb:0<=P.c.pos/\P.c.pos<=4000000000)(h:RunE w L r P):Calls Tryz.prog 31 #[.pointer (some ⟨r,0,none⟩)] w fun e W=>e=.returned (.int .i64 (abtE P))/\Turn w L r W (abtP P):=by
 have c0:=zqb h;have c1:=zzm h;have c2:=zzv hb h;have HT:=zaa (Turn.of h (Below.refl _ _));clear h hb;unfold abtE abtP;cases ho:zaj P.c with
 |true =>
  rw[ho]at c0;simp only[if_true];clear ho c1 c2
  go_enter Tryz.func31,Tryz.ntmps31
  go_wp2_with (first|(go_at_call 72;refine c0.mono ?_;rintro e _ ⟨rfl,rfl⟩))
  go_ret;exact⟨rfl,HT.out⟩
 |false =>
  rw[ho]at c0;simp only[xp,if_false];by_cases hs:P.c.st=2
  ·rw[decide_eq_true hs]at c1;rw[if_pos hs,if_pos hs];clear ho c2 hs
   go_enter Tryz.func31,Tryz.ntmps31
   go_wp2_with (first|(go_at_call 72;refine c0.mono ?_;rintro e _ ⟨rfl,rfl⟩)|(go_at_call 74;refine c1.mono ?_;rintro e _ ⟨rfl,rfl⟩))
   go_ret;exact⟨rfl,HT.out⟩
  ·rw[decide_eq_false hs]at c1;rw[if_neg hs,if_neg hs];generalize trnP P=Q at *;clear ho hs HT
   go_enter Tryz.func31,Tryz.ntmps31
   go_wp2_with (first|(go_at_call 72;refine c0.mono ?_;rintro e _ ⟨rfl,rfl⟩)|(go_at_call 74;refine c1.mono ?_;rintro e _ ⟨rfl,rfl⟩)|(go_at_call 75;refine c2.mono ?_;rintro e w1 ⟨rfl,ht1⟩;have HT:=zaa ht1;clear ht1))
   go_ret;exact⟨rfl,HT.out⟩
theorem ztf (k:Int)(h:RunE w L r P):Calls Tryz.prog 59 #[.pointer (some ⟨r,0,none⟩),.int .i64 k] w fun e W=>(∃ n,e=.returned (.int .i64 n))/\Turn w L r W (cpyP P k):=by
 unfold cpyP;cases hk:numB k P.ms.length with
 |false =>
  simp only[xp,if_false];have HT:=zaa (fun (W:World) (hb:Below w.heap.size w W)=>Turn.of h hb);obtain⟨gt,tc,m,gv,vc,t,s,sv,tv,h⟩:=h;have c1:=zl7 k hk h;clear h hk
  go_enter Tryz.func59,Tryz.ntmps59
  go_wp2_with (first|(go_at_call 121;refine c1.mono ?_;rintro e w1 ⟨rfl,hb1⟩))
  go_ret;exact⟨⟨_,rfl⟩,HT.out _ (thn3 hb1 (bel1 _ _))⟩
 |true =>
  simp only[if_true];obtain⟨i,rfl,hi⟩:=zic hk;obtain⟨x,hx⟩:∃ x,P.ms[i]?=some x:=⟨P.ms[i]'hi,xg _⟩;rw[xj,xm,hx];show Calls _ _ _ _ fun e W=>(∃ n,e=.returned (.int .i64 n))/\Turn w L r W { P with ms:=za8 P.ms x };obtain⟨gt,tc,m,gv,vc,t,s,sv,tv,h⟩:=h;have c1:=zl8 i x hx h;have c2:=fun (W:World) (hb:Below w.heap.size w W)=>(zmc x (h.keep hb)).mono fun e W' q=>(⟨q.1,by obtain⟨m2,L2,k1,k2,k3⟩:=q.2;exact⟨L2,⟨_,_,_,_,_,_,_,_,_,k1⟩,fun b hb'=>k2 b (xy hb' hb.size),(Chg.of hb).trans (k3.mono fun b hb=>by omega)⟩⟩:e=Ending.returned (.bool (decide (P.ms.length<40)))/\Turn w L r W' { P with ms:=za8 P.ms x });clear h hk hx hi;generalize ({ P with ms:=za8 P.ms x }:zad)=Q at *;generalize decide (P.ms.length<40)=B at *;obtain⟨xk,xn,xs,xi,xr⟩:=x;simp only at c1 c2;cases B
  all_goals
   go_enter Tryz.func59,Tryz.ntmps59
   go_wp2_with (first|(go_at_call 121;refine c1.mono ?_;rintro e w1 ⟨rfl,hb1⟩;have HB:=zaa (thn3 hb1 (bel1 w1 (.cells #[.int .i64 xk,.int .i64 xn,.int .i64 xs,.int .i64 xi,.int .i64 xr] 100))).drew))
   go_region_with (go_at_call 122;refine(c2 _ HB.out).mono ?_;rintro e w3 ⟨rfl,ht3⟩;have HT:=zaa ht3;clear ht3)
   all_goals
    go_wp2_with fail
    go_ret;exact⟨⟨_,rfl⟩,HT.out⟩
theorem zlb (a b k:Int)(hh:hasB P.vs a b=true)(h:RunE w L r P):Calls Tryz.prog 125 #[.pointer (some ⟨r,0,none⟩),.int .i64 a,.int .i64 b,.int .i64 k] w fun e W=>e=.returned (.bool (numB k P.ts.length))/\w=W:=by
 obtain⟨gt,tc,m,gv,vc,t,s,sv,tv,h⟩:=h;have c1:=zhb a b hh h;have c2:=zhc k h;clear h hh;generalize numB k P.ts.length=B at *
 go_enter Tryz.func125,Tryz.ntmps125
 go_wp2_with (first|(go_at_call 188;refine c1.mono ?_;rintro e W' ⟨rfl,hW⟩;obtain rfl:=hW.symm)|(go_at_call 189;refine c2.mono ?_;rintro e _ ⟨rfl,rfl⟩))
 go_ret;exact⟨rfl,rfl⟩
theorem zja (i j rl:Nat)(V:SrvD)(y:InsD)(ps:List PinD)(k:Int)(text:ByteArray)(hV:P.vs[i]?=some V)(hy:V.ins[j]?=some y)(hr:y.r=rl)(hps:V.rels[rl]?=some ps)(hl:ps.length<=2000000)(hts:text.size<=maxLen)(hss:(schO P.ss (pinO ps k).w).size<=maxLen)(h:RunE w L r P) :
  Calls Tryz.prog 94 #[.pointer (some ⟨r,0,none⟩),.int .i64 i,.int .i64 j,.int .i64 k,.string text] w fun e W=>e=.returned (.int .i64 (if numB k P.ts.length then (if numB (pinO ps k).w P.ss.length then (if (zau false (schO P.ss (pinO ps k).w) text).2=0 then (if (P.ts.getD k.toNat ⟨0,[]⟩).recs.length<12 then 0 else 16) else (zau false (schO P.ss (pinO ps k).w) text).2) else 15) else 11))/\Turn w L r W (if numB k P.ts.length/\numB (pinO ps k).w P.ss.length/\(zau false (schO P.ss (pinO ps k).w) text).2=0/\(P.ts.getD k.toNat ⟨0,[]⟩).recs.length<12 then wrtP P k.toNat (schO P.ss (pinO ps k).w) (zau false (schO P.ss (pinO ps k).w) text).1 else P):=by
 have hh:hasB P.vs (i:Int) (j:Int)=true:=by
  have hi:=(xe.1 hV).1;have hjl:=(xe.1 hy).1;rw[zd4,xj,xm,hV];show 0<=_/\_<_/\0<=_/\(j:Int)<(V.ins.length:Int);omega
 have c1:=zlb (i:Int) (j:Int) k hh h;have HT:=zaa (fun (W:World) (hb:Below w.heap.size w W)=>Turn.of h hb);have c3:=fun W=>zl5 (schO P.ss (pinO ps k).w) text hss hts W;obtain⟨gt,tc,m,gv,vc,t,s,sv,tv,h⟩:=h;have c2:=zt1 i j rl V y ps k hV hy hr hps hl h;cases hk:numB k P.ts.length with
 |false =>
  rw[hk]at c1;simp only[xp,if_false,false_and];clear h hk c2 c3 hV hy hps hh
  go_enter Tryz.func94,Tryz.ntmps94
  go_wp2_with (first|(go_at_call 125;refine c1.mono ?_;rintro e _ ⟨rfl,rfl⟩))
  go_ret;exact⟨rfl,HT.out _ (Below.refl _ _)⟩
 |true =>
  rw[hk]at c1;simp only[if_true,true_and];cases hw:numB (pinO ps k).w P.ss.length with
  |false =>
   rw[hw]at c2;simp only[xp,if_false,false_and];clear h hk c3 hV hy hps hh hw;generalize schO P.ss (pinO ps k).w=X at *
   go_enter Tryz.func94,Tryz.ntmps94
   go_wp2_with (first
    |(go_at_call 125;refine c1.mono ?_;rintro e _ ⟨rfl,rfl⟩)
    |(go_at_call 160;refine c2.mono ?_;rintro e w2 ⟨rfl,hb2⟩))
   go_ret;exact⟨rfl,HT.out _ hb2⟩
  |true =>
   rw[hw]at c2;simp only[if_true,true_and];generalize schO P.ss (pinO ps k).w=X at *;generalize zau false X text=O at *;obtain⟨d,eo⟩:=O;simp only at c3 ⊢;by_cases he:eo=0
   ·subst he;obtain⟨q,rfl,hq⟩:=zic hk;obtain⟨T,hT⟩:∃ T,P.ts[q]?=some T:=⟨P.ts[q]'hq,xg _⟩;have hg:P.ts.getD (q:Int).toNat ⟨0,[]⟩=T:=by rw[xj,xm,hT];rfl
    rw[hg];simp only[if_true,true_and];by_cases hl12:T.recs.length<12
    ·rw[if_pos hl12,if_pos hl12];have ew:wrtP P (q:Int).toNat X d={ P with ts:=P.ts.set q { T with recs:=T.recs++[⟨X,d,P.ti⟩] } }:=by
      unfold wrtP
      congr 1
      rw[xj];refine List.ext_getElem? fun z=>?_;rw[List.getElem?_modify,List.getElem?_set];by_cases e:q=z
      ·subst e;rw[if_pos rfl,if_pos hq,hT];simp
      ·rw[if_neg e];simp[e]
     rw[ew];have c4:=fun (W:World) (hb:Below w.heap.size w W)=>(zt0 q T X d hT hl12 (h.keep hb)).mono fun e W' z=>(⟨z.1,by obtain⟨v2,L2,k1,k2,k3⟩:=z.2;exact⟨L2,⟨_,_,_,_,_,_,_,_,_,k1⟩,fun b hb'=>k2 b (xy hb' hb.size),(Chg.of hb).trans (k3.mono fun b hb=>by omega)⟩⟩:e=Ending.returned (.bool true)/\Turn w L r W' { P with ts:=P.ts.set q { T with recs:=T.recs++[⟨X,d,P.ti⟩] } });clear h hk hV hy hps hh hw HT ew hg hT;generalize ({ P with ts:=P.ts.set q { T with recs:=T.recs++[⟨X,d,P.ti⟩] } }:zad)=Q at *
     go_enter Tryz.func94,Tryz.ntmps94
     go_wp2_with (first
      |(go_at_call 125;refine c1.mono ?_;rintro e _ ⟨rfl,rfl⟩)
      |(go_at_call 160;refine c2.mono ?_;rintro e w2 ⟨rfl,hb2⟩)
      |(go_at_call 124;refine(c3 _).mono ?_;rintro e w3 ⟨rfl,hb3⟩)
      |(go_at_call 161;refine(c4 _ (thn3 hb2 hb3)).mono ?_;rintro e w4 ⟨rfl,ht4⟩;have HT4:=zaa ht4;clear ht4))
     go_ret;exact⟨rfl,HT4.out⟩
    ·rw[if_neg hl12,if_neg hl12];have c4:=fun (W:World) (hb:Below w.heap.size w W)=>ztz q T X d hT (by omega) (h.keep hb);clear h hk hV hy hps hh hw hg hT
     go_enter Tryz.func94,Tryz.ntmps94
     go_wp2_with (first
      |(go_at_call 125;refine c1.mono ?_;rintro e _ ⟨rfl,rfl⟩)
      |(go_at_call 160;refine c2.mono ?_;rintro e w2 ⟨rfl,hb2⟩)
      |(go_at_call 124;refine(c3 _).mono ?_;rintro e w3 ⟨rfl,hb3⟩)
      |(go_at_call 161;refine(c4 _ (thn3 hb2 hb3)).mono ?_;rintro e _ ⟨rfl,rfl⟩))
     go_ret;exact⟨rfl,HT.out _ (thn3 hb2 hb3)⟩
   ·rw[if_neg he,if_neg (fun q=>he q.1)];clear h hk hV hy hps hh hw
    go_enter Tryz.func94,Tryz.ntmps94
    go_wp2_with (first
     |(go_at_call 125;refine c1.mono ?_;rintro e _ ⟨rfl,rfl⟩)
     |(go_at_call 160;refine c2.mono ?_;rintro e w2 ⟨rfl,hb2⟩)
     |(go_at_call 124;refine(c3 _).mono ?_;rintro e w3 ⟨rfl,hb3⟩))
    go_ret;exact⟨rfl,HT.out _ (thn3 hb2 hb3)⟩
end
section
variable {w W:World}{L L':Nat->Nat}{r:Nat}{P:zad}
theorem zmj (i j rl:Nat)(V:SrvD)(y:InsD)(ps:List PinD)(k:Nat)(hk:k<P.ts.length)(hV:P.vs[i]?=some V)(hy:V.ins[j]?=some y)(hr:y.r=rl)(hps:V.rels[rl]?=some ps)(hl:ps.length<=2000000)(hn:numB (pinO ps k).r P.ss.length=false)(h:RunE w L r P) :
  Calls Tryz.prog 64 #[.pointer (some ⟨r,0,none⟩),.int .i64 i,.int .i64 j,.int .i64 k] w fun e W=>e=.returned (.tuple #[.slice none 0 0,.int .i64 15])/\Below w.heap.size w W:=by
 have hh:hasB P.vs (i:Int) (j:Int)=true:=by
  have hi:=(xe.1 hV).1;have hjl:=(xe.1 hy).1;rw[zd4,xj,xm,hV];show 0<=_/\_<_/\0<=_/\(j:Int)<(V.ins.length:Int);omega
 have c1:=zlb (i:Int) (j:Int) (k:Int) hh h;rw[show numB (k:Int) (P.ts.length:Int)=true by unfold numB;simp;omega]at c1;obtain⟨gt,tc,m,gv,vc,t,s,sv,tv,h⟩:=h;have c2:=zmb i j rl V y ps k hV hy hr hps hl h;rw[hn]at c2;clear h hV hy hps hh hn;generalize schO P.ss (pinO ps k).r=X at *
 go_enter Tryz.func64,Tryz.ntmps64
 go_wp2_with (first
  |(go_at_call 125;refine c1.mono ?_;rintro e _ ⟨rfl,rfl⟩)
  |(go_at_call 126;refine c2.mono ?_;rintro e w2 ⟨rfl,hb2⟩))
 go_ret2
 exact⟨rfl,hb2⟩
theorem zmk (i j rl:Nat)(V:SrvD)(y:InsD)(ps:List PinD)(k:Nat)(T:TopD)(RT:RecD->ByteArray)(hT:P.ts[k]?=some T)(hl12:T.recs.length<=12)(hV:P.vs[i]?=some V)(hy:V.ins[j]?=some y)(hr:y.r=rl)(hps:V.rels[rl]?=some ps)(hl:ps.length<=2000000)(hn:numB (pinO ps k).r P.ss.length=true)
  (hRd:∀ x∈T.recs,∀ W,Below w.heap.size w W->Calls Tryz.prog 66 #[.string x.sc,.string (schO P.ss (pinO ps k).r),.string x.da] W fun e W'=>(∃ er,e=.returned (.tuple #[.string (RT x),.int .i64 er]))/\Below W.heap.size W W') (h:RunE w L r P) :
  Calls Tryz.prog 64 #[.pointer (some ⟨r,0,none⟩),.int .i64 i,.int .i64 j,.int .i64 k] w fun e W=>∃ v,e=.returned (.tuple #[v,.int .i64 0])/\W.ownsRow w.heap.size 9 1 v T.recs.length (T.recs.map fun x=>.string (RT x))/\Below w.heap.size w W:=by
 obtain⟨iM,hiM,zM0,zM1,zM2⟩:=info_parts Tryz.infoStrL;have hh:hasB P.vs (i:Int) (j:Int)=true:=by
  have hi:=(xe.1 hV).1;have hjl:=(xe.1 hy).1;rw[zd4,xj,xm,hV];show 0<=_/\_<_/\0<=_/\(j:Int)<(V.ins.length:Int);omega
 have hk:=(xe.1 hT).1;have c1:=zlb (i:Int) (j:Int) (k:Int) hh h;rw[show numB (k:Int) (P.ts.length:Int)=true by unfold numB;simp;omega]at c1;obtain⟨gt,tc,m,gv,vc,t,s,sv,tv,h⟩:=h;have c2:=zmb i j rl V y ps k hV hy hr hps hl h;rw[hn]at c2;have c3:=fun (W:World) (hb:Below w.heap.size w W)=>ztr k T hT (h.keep hb);clear h hV hy hps hh hn hT;generalize schO P.ss (pinO ps k).r=X at *;obtain⟨R,hR⟩:∃ R,T.recs=R:=⟨_,rfl⟩;rw[hR]at hl12 hRd c3 ⊢;clear hR;have HRD:=zaa hRd;clear hRd;obtain⟨n,hnn⟩:∃ n,n=R.length:=⟨_,rfl⟩;rw[<- hnn]at hl12 c3 ⊢;have HN:=zaa hnn;clear hnn
 go_enter Tryz.func64,Tryz.ntmps64
 go_wp2_with (first
  |(go_at_call 125;refine c1.mono ?_;rintro e _ ⟨rfl,rfl⟩)
  |(go_at_call 126;refine c2.mono ?_;rintro e w2 ⟨rfl,hb2⟩;have O0:=zaa (World.ownsRow_made (base:=w2.heap.size) (e:=9) (size:=1) w2 #[] 0 (qf _) (by unfold maxLen;omega) rfl);have B3:=zaa (thn3 hb2 (bel1 w2 (.cells #[] 9))))
  |(go_at_call 127;refine(c3 _ B3.out).mono ?_;rintro e _ ⟨v,rfl,ho,rfl⟩;obtain⟨ad,rcap,rfl,hr1,hr2⟩:=ho.len;have HO:=zaa ho;clear ho))
 have hne:=zaa (zza HO.out.1 (show RowIs (w2.alloc (.cells #[] 9)) w2.heap.size 9 []from zal _ _) (by decide))
 go_loopw [12,42] (fun vt vi wr=>∃ q:Nat,q<=n/\vi=.int .i64 q/\wr.ownsRow w2.heap.size 9 1 vt q ((R.take q).map fun x=>.string (RT x))/\Below w2.heap.size (w2.alloc (.cells #[] 9)) wr) (fun _ q _=>n-(intOf q).toNat)
 case atStart=>exact⟨0,Nat.zero_le _,rfl,by simpa using O0.out,Below.refl _ _⟩
 case round =>
  obtain⟨q,hq,rfl,hown,hb⟩:=hrel
  rename World=>w5
  have hx0 := znn q;have HOWN:=zaa hown;have hb5:Below w2.heap.size w2 w5:=((Below.refl _ _).alloc (qf _) _).trans hb;have HB:=zaa (thn3 hb2 hb5);have HBB:=zaa hb;have zb:=hb5.size;by_cases hlt:q<n
  ·obtain⟨x,hx⟩:∃ x,R[q]?=some x:=⟨R[q]'(by rw[<- HN.out];exact hlt),xg _⟩;obtain⟨gr,cp,hsl,_,_,_,lgr,hcell,_⟩:=HO.out.some (by omega);obtain⟨rfl,rfl⟩:ad=some ⟨gr,0,none⟩/\rcap=cp:=by simpa using hsl
   have hg2:gr<w2.heap.size:=by
    have h1:gr≠w2.heap.size:=fun e=>hne.out (by rw[<- e];rfl);simp at lgr;omega
   have d0:=(hb.cell (p:=⟨gr,q*3,none⟩) hg2).trans (hcell (q*3+0) _ (za2 (f:=recF) (k:=3) (fun _=>rfl) hx (by omega)));have d1:=(hb.cell (p:=⟨gr,q*3+1,none⟩) hg2).trans (hcell (q*3+1) _ (za2 (f:=recF) (k:=3) (fun _=>rfl) hx (by omega)));have d2:=(hb.cell (p:=⟨gr,q*3+2,none⟩) hg2).trans (hcell (q*3+2) _ (za2 (f:=recF) (k:=3) (fun _=>rfl) hx (by omega)));have c4:=HRD.out x (xq hx);have HE:Hid ((R.take (q+1)).map (fun x=>Value.string (RT x))=(R.take q).map (fun x=>Value.string (RT x))++[.string (RT x)]):=by show _=_;rw[List.take_add_one,hx,List.map_append];rfl
   obtain⟨xc,xd,xt⟩:=x;have d0:w5.cell? ⟨gr,q*3,none⟩=some (.string xc):=d0;have d1:w5.cell? ⟨gr,q*3+1,none⟩=some (.string xd):=d1;have d2:w5.cell? ⟨gr,q*3+2,none⟩=some (.int .i64 xt):=d2;have hx1:(q:Int)<(n:Int):=by omega
   have nsz:gr≠w5.heap.size:=by omega
   have lg5:gr<w5.heap.size:=by omega
   clear hown hb hx hsl hcell c1 c2 c3 hb5 hk;generalize hRT:RT ⟨xc,xd,xt⟩=tx at *;simp only at c4
   go_wp2_with (first
    |(go_at_call 66;refine(c4 _ (thn3 HB.out (bel1 _ (.cells #[.string xc,.string xd,.int .i64 xt] 197)))).mono ?_;rintro e w6 ⟨⟨er,rfl⟩,hb6⟩;have HB6:=zaa hb6;have z6:w5.heap.size+1<=w6.heap.size:=(by have:=hb6.size;simpa using this);have HO6:=zaa (zas (HOWN.out.alloc (.cells #[.string xc,.string xd,.int .i64 xt] 197)) hb6);clear hb6)
    |(at_builtin;refine wpList_append_lies _ rfl _ _ _ rfl w2.heap.size 9 iM _ 1 16 Tryz.underlying22 hiM zM0 zM1 zM2 rfl (by omega) u12 q _ rfl (HO6.out.alloc _) ⟨w6.heap.size,0,none⟩ 1 1 [.string tx] rfl rfl (World.news_of_block (heap_alloc_new w6 _)) (by simp[Value.oneCell']) (by omega) (by unfold maxLen;omega) (by omega) (by simp;omega) (w6.heap.size+1) (by simp) ?_;intro g2 cap2 w8 hown2 hgrow2 hat2 hlt2))
   go_roundw
   case rel =>
    refine⟨q+1,by omega,by go_num,by rw[HE.out];exact hown2,?_⟩;have b1:=HBB.out.alloc zb (.cells #[.string xc,.string xd,.int .i64 xt] 197);have b2:=b1.trans (HB6.out.mono (by simp;omega));exact Below.grown (b2.alloc (by omega) _) hgrow2 (by simp;omega) (fun k hk=>(HOWN.out.lt k hk).1)
   case measure=>simp[intOf];omega
  ·obtain rfl:n=q:=by omega
   go_wp2_with fail
   go_ret2
   refine⟨_,rfl,?_,HB.out⟩;have:=HOWN.out.mono hb2.size;rw[HN.out,List.take_length,<- HN.out]at this;exact this
end
def tabC (T:List (List Bool)):List Value:=T.flatten.map Value.bool
def tabOk (T:List (List Bool)):Prop:=T.length=8/\∀ r∈T,r.length=8
theorem zki:∀ (l:List (List Bool)) (i j:Nat) (r:List Bool),(∀ r∈l,r.length=8)->l[i]?=some r->j<8->l.flatten[i*8+j]?=r[j]?
 |[],i,j,r,h,hi,hj=>by simp at hi
 |q::l,0,j,r,h,hi,hj=>by
  simp at hi;subst hi;rw[xo,xh (by rw[h q (by simp)];omega),show 0*8+j=j by omega]
 |q::l,i+1,j,r,h,hi,hj=>by
  rw[xv]at hi;have hq:=h q (by simp);rw[xo,xf (by rw[hq];omega),hq,show (i+1)*8+j-8=i*8+j by omega];exact zki l i j r (fun r hr=>h r (by simp[hr])) hi hj
def tabG (T:List (List Bool))(i j:Nat):Bool:=(T.getD i []).getD j false
def crB (T:List (List Bool))(x y:Int):Bool:=((x == -1)||(y == -1))||(numB x 8&&numB y 8&&tabG T x.toNat y.toNat)
theorem zm4 (T:List (List Bool))(hT:tabOk T)(x y:Int)(w:World):Calls Tryz.prog 232 #[.agg (tabC T).toArray,.int .i64 x,.int .i64 y] w fun e W=>e=.returned (.bool (crB T x y))/\Below w.heap.size w W:=by
 have hq:=zbl (zal w (.cells (tabC T).toArray 171));have n1:=fun w=>za5 x 8 w;have n2:=fun w=>za5 y 8 w;obtain⟨R,hR⟩:∃ R,R=crB T x y:=⟨_,rfl⟩;rw[<- hR];unfold crB at hR;have hB:=belS w (.cells (tabC T).toArray 171);by_cases hx:x=-1
 ·subst hx;have hR1:R=true:=by rw[hR];simp
  clear hR hq n1 n2;subst hR1
  go_enter Tryz.func232,Tryz.ntmps232
  go_wp2_with fail
  go_ret;exact⟨rfl,hB⟩
 by_cases hy:y=-1
 ·subst hy;have hx':(x == -1)=false:=by simp[hx]
  have hR1:R=true:=by rw[hR];simp
  clear hR hq n1 n2 hx;subst hR1
  go_enter Tryz.func232,Tryz.ntmps232
  go_wp2_with fail
  go_ret;exact⟨rfl,hB⟩
 have hx':(x == -1)=false:=by simp[hx]
 have hy':(y == -1)=false:=by simp[hy]
 rw[hx',hy']at hR;clear hx hy;by_cases h1:0<=x/\x<8
 ·have e1:numB x 8=true:=by unfold numB;simp;omega
  rw[e1]at n1 hR;by_cases h2:0<=y/\y<8
  ·have e2:numB y 8=true:=by unfold numB;simp;omega
   rw[e2]at n2 hR;obtain⟨i,rfl⟩:∃ n:Nat,x=n:=⟨x.toNat,by omega⟩;obtain⟨j,rfl⟩:∃ n:Nat,y=n:=⟨y.toNat,by omega⟩;rw[xj,xj]at hR;obtain⟨r,hr⟩:∃ r,T[i]?=some r:=⟨T[i]'(by rw[hT.1];omega),xg (by rw[hT.1];omega)⟩;have lr:=hT.2 r (xq hr);obtain⟨z,hz⟩:∃ z,r[j]?=some z:=⟨r[j]'(by omega),xg (by omega)⟩;have hc:=hq (i*8+j) (.bool z) (by rw[tabC,xu,zki _ _ _ _ hT.2 hr (by omega),hz];rfl);rw[qe]at hc;have hR1:R=z:=by rw[hR];simp[tabG,qg,hr,hz]
   have a1:(i:Int)<8:=h1.2;have a2:(j:Int)<8:=h2.2;have a3 := znn i;have a4 := znn j;clear hR hq hr hz h1 h2 e1 e2 hT lr;subst hR1
   go_enter Tryz.func232,Tryz.ntmps232
   go_wp2_with (first|(go_at_call 178;have hq:=m1;refine(n2 _).mono ?_;rintro e _ ⟨rfl,rfl⟩;have m2:True:=trivial)|(go_at_call 178;refine(n1 _).mono ?_;rintro e _ ⟨rfl,rfl⟩;have m1:True:=trivial))
   go_ret;exact⟨rfl,hB⟩
  ·have e2:numB y 8=false:=by unfold numB;simp;omega
   rw[e2]at n2 hR;have hR1:R=false:=by rw[hR];simp
   clear hR hq h1 h2 e1 e2;subst hR1
   go_enter Tryz.func232,Tryz.ntmps232
   go_wp2_with (first|(go_at_call 178;have hq:=m1;refine(n2 _).mono ?_;rintro e _ ⟨rfl,rfl⟩;have m2:True:=trivial)|(go_at_call 178;refine(n1 _).mono ?_;rintro e _ ⟨rfl,rfl⟩;have m1:True:=trivial))
   go_ret;exact⟨rfl,hB⟩
 ·have e1:numB x 8=false:=by unfold numB;simp;omega
  rw[e1]at n1 hR;have hR1:R=false:=by rw[hR];simp
  clear hR hq h1 e1;subst hR1
  go_enter Tryz.func232,Tryz.ntmps232
  go_wp2_with (go_at_call 178;refine(n1 _).mono ?_;rintro e _ ⟨rfl,rfl⟩)
  go_ret;exact⟨rfl,hB⟩
theorem Tryz.infoTab:(Tryz.prog.info? 171).map (·.size)=some 64:=by kernel_rfl
theorem zkj:∀ (l:List (List Bool)),(∀ r∈l,r.length=8)->l.flatten.length=l.length*8
 |[],_=>rfl
 |q::l,h=>by rw[xo,xz,h q (by simp),zkj l (fun r hr=>h r (by simp[hr])),qd];omega
theorem tabOk.len {T:List (List Bool)}(h:tabOk T):(tabC T).length=64:=by rw[tabC,List.length_map,zkj T h.2,h.1]
theorem tabOk.info {T:List (List Bool)}(h:tabOk T):(Tryz.prog.info? 171).map (·.size)=some (tabC T).length:=by rw[h.len];exact Tryz.infoTab
theorem zdi {P:Program}{ops:Array Oper}{rest:List Oper}{op:Oper}{a:Act}{w:World}{Q:Exit->Act->World->Prop}(hw:Region.wanted op (yielded ops a.tmps)=true)(ty:TypeId)(x:Operand)(ho:op.op=.load ty x)
  (b o:Nat) (hx:a.eval x=.pointer (some ⟨b,o,none⟩)) (cs:List Value) (d:TypeDesc) (hc:w.rangeAt b o cs)
  (hu:P.underlying ty=some d) (hd:d.isRow=true) (hi:(P.info? ty).map (·.size)=some cs.length)
  (h:wpList P ops Q rest (a.put op.dst (.agg cs.toArray)) w):wpList P ops Q (op::rest) a w :=
 Go.BigFrame.wpList_want hw fun K hK=>wp_load_mid ty x ho b o hx cs d hc hu hd hi (hK _ _ h)
def gaB (T:List (List Bool))(p q:PinD):Bool:=crB T p.w q.r&&crB T q.w p.r
theorem zxk (T:List (List Bool))(hT:tabOk T)(p q:PinD)(w:World):Calls Tryz.prog 180 #[.agg (tabC T).toArray,.agg #[.int .i64 p.t,.int .i64 p.w,.int .i64 p.r],.agg #[.int .i64 q.t,.int .i64 q.w,.int .i64 q.r]] w fun e W=>e=.returned (.bool (gaB T p q))/\Below w.heap.size w W:=by
 obtain⟨pt,pw,pr⟩:=p;obtain⟨qt,qw,qr⟩:=q;have c1:=fun w=>zm4 T hT pw qr w;have c2:=fun w=>zm4 T hT qw pr w;have hR:Hid (gaB T ⟨pt,pw,pr⟩ ⟨qt,qw,qr⟩=(crB T pw qr&&crB T qw pr)):=rfl;obtain⟨R,hRR⟩:∃ R,R=gaB T ⟨pt,pw,pr⟩ ⟨qt,qw,qr⟩:=⟨_,rfl⟩;rw[<- hRR]at hR ⊢;generalize crB T pw qr=x at c1 hR;generalize crB T qw pr=y at c2 hR;clear hRR;simp only;have it:=hT.info;have hBB:Below w.heap.size w (((w.alloc (.cells (tabC T).toArray 171)).alloc (.cells #[.int .i64 pt,.int .i64 pw,.int .i64 pr] 165)).alloc (.cells #[.int .i64 qt,.int .i64 qw,.int .i64 qr] 165)):=thn3 (thn3 (belS w _) (belS _ _)) (belS _ _);have rt:=zaf (belS _ (.cells #[.int .i64 qt,.int .i64 qw,.int .i64 qr] 165)) (zaf (belS _ (.cells #[.int .i64 pt,.int .i64 pw,.int .i64 pr] 165)) (zbl (zal w (.cells (tabC T).toArray 171))));have hz1:(w.alloc (.cells (tabC T).toArray 171)).heap.size=w.heap.size+1:=by simp
 have pb:=new3 (.cells #[.int .i64 qt,.int .i64 qw,.int .i64 qr] 165) (box3 (w.alloc (.cells (tabC T).toArray 171)) (.int .i64 pt) (.int .i64 pw) (.int .i64 pr) 165);rw[hz1]at pb;have qb:=box3 ((w.alloc (.cells (tabC T).toArray 171)).alloc (.cells #[.int .i64 pt,.int .i64 pw,.int .i64 pr] 165)) (.int .i64 qt) (.int .i64 qw) (.int .i64 qr) 165;rw[show ((w.alloc (.cells (tabC T).toArray 171)).alloc (.cells #[.int .i64 pt,.int .i64 pw,.int .i64 pr] 165)).heap.size=w.heap.size+1+1 by simp]at qb;clear hT hz1;cases x with
 |false =>
  have hR1:R=false:=hR.out;clear hR;subst hR1
  go_enter Tryz.func180,Tryz.ntmps180
  go_wp2_with (first
   |(refine wpList_load_mid (w:=((w.alloc (.cells (tabC T).toArray 171)).alloc (.cells #[.int .i64 pt,.int .i64 pw,.int .i64 pr] 165)).alloc (.cells #[.int .i64 qt,.int .i64 qw,.int .i64 qr] 165)) rfl 171 _ rfl w.heap.size 0 rfl (tabC T) _ rt Tryz.underlying171 rfl it ?_)
   |(go_at_call 232;refine(c1 _).mono ?_;rintro e w1 ⟨rfl,hb1⟩))
  go_ret;exact⟨rfl,thn3 hBB hb1⟩
 |true =>
  have hR1:R=y:=hR.out;clear hR;subst hR1
  go_enter Tryz.func180,Tryz.ntmps180
  go_wp2_with (first
   |(have hq:=hb1;(refine zdi (w:=w1) (by rfl) 171 _ rfl w.heap.size 0 rfl (tabC T) _ rt1 Tryz.underlying171 rfl it ?_))
   |(refine wpList_load_mid (w:=((w.alloc (.cells (tabC T).toArray 171)).alloc (.cells #[.int .i64 pt,.int .i64 pw,.int .i64 pr] 165)).alloc (.cells #[.int .i64 qt,.int .i64 qw,.int .i64 qr] 165)) rfl 171 _ rfl w.heap.size 0 rfl (tabC T) _ rt Tryz.underlying171 rfl it ?_)
   |(go_at_call 232;have hq:=hb1;refine(c2 _).mono ?_;rintro e w2 ⟨rfl,hb2⟩)
   |(go_at_call 232;refine(c1 _).mono ?_;rintro e w1 ⟨rfl,hb1⟩;have rt1:=zaf hb1 rt;have pb1:=zaq hb1 pb;have qb1:=zaq hb1 qb))
  go_ret;exact⟨rfl,thn3 (thn3 hBB hb1) hb2⟩
structure ChD where
 thr:List Bool
 fst:List Bool
 wnt:List Bool
 alg:List (List Bool)
 fev:List (List Bool)
def ChD.bits (c:ChD):List Bool:=c.thr++(c.fst++(c.wnt++(c.alg.flatten++c.fev.flatten)))
def ChD.cells (c:ChD):List Value:=c.bits.map Value.bool
structure ChD.ok (c:ChD):Prop where
 thr:c.thr.length=9
 fst:c.fst.length=9
 wnt:c.wnt.length=9
 alg:c.alg.length=9
 algr:∀ r∈c.alg,r.length=9
 fev:c.fev.length=9
 fevr:∀ r∈c.fev,r.length=9
theorem zh1:∀ (l:List (List Bool)) (i j:Nat) (r:List Bool),(∀ r∈l,r.length=9)->l[i]?=some r->j<9->l.flatten[i*9+j]?=r[j]?
 |[],i,j,r,h,hi,hj=>by simp at hi
 |q::l,0,j,r,h,hi,hj=>by
  simp at hi;subst hi;rw[xo,xh (by rw[h q (by simp)];omega),show 0*9+j=j by omega]
 |q::l,i+1,j,r,h,hi,hj=>by
  rw[xv]at hi;have hq:=h q (by simp);rw[xo,xf (by rw[hq];omega),hq,show (i+1)*9+j-9=i*9+j by omega];exact zh1 l i j r (fun r hr=>h r (by simp[hr])) hi hj
theorem zff:∀ (l:List (List Bool)),(∀ r∈l,r.length=9)->l.flatten.length=l.length*9
 |[],_=>rfl
 |q::l,h=>by rw[xo,xz,h q (by simp),zff l (fun r hr=>h r (by simp[hr])),qd];omega
theorem ChD.ok.get_thr {c:ChD}(h:c.ok){p:Nat}{b:Bool}(hp:c.thr[p]?=some b):c.bits[p]?=some b:=by
 have hl:=(xe.1 hp).1;rw[ChD.bits,xh hl];exact hp
theorem ChD.ok.get_fst {c:ChD}(h:c.ok){p:Nat}{b:Bool}(hp:c.fst[p]?=some b):c.bits[9+p]?=some b:=by
 have hl:=(xe.1 hp).1;rw[ChD.bits,xf (by rw[h.thr];omega),h.thr,show 9+p-9=p by omega,xh hl];exact hp
theorem ChD.ok.get_alg {c:ChD}(h:c.ok){p j:Nat}{r:List Bool}{b:Bool}(hp:c.alg[p]?=some r)(hj:r[j]?=some b):c.bits[27+p*9+j]?=some b:=by
 have hr:=h.algr r (xq hp);have hjl:=(xe.1 hj).1;have hpl:=(xe.1 hp).1;have hfl:=zff c.alg h.algr;have:=h.alg;rw[ChD.bits,xf (by rw[h.thr];omega),h.thr,xf (by rw[h.fst];omega),h.fst,xf (by rw[h.wnt];omega),h.wnt,show 27+p*9+j-9-9-9=p*9+j by omega,xh (by omega),zh1 _ _ _ _ h.algr hp (by omega)];exact hj
theorem ChD.ok.get_fev {c:ChD}(h:c.ok){p j:Nat}{r:List Bool}{b:Bool}(hp:c.fev[p]?=some r)(hj:r[j]?=some b):c.bits[108+p*9+j]?=some b:=by
 have hr:=h.fevr r (xq hp);have hjl:=(xe.1 hj).1;have hfl:=zff c.alg h.algr;have:=h.alg;rw[ChD.bits,xf (by rw[h.thr];omega),h.thr,xf (by rw[h.fst];omega),h.fst,xf (by rw[h.wnt];omega),h.wnt,xf (by omega),hfl,h.alg,show 108+p*9+j-9-9-9-9*9=p*9+j by omega,zh1 _ _ _ _ h.fevr hp (by omega)];exact hj
structure SiD where
 has:List Bool
 had:List Bool
def SiD.cells (s:SiD):List Value:=(s.has++s.had).map Value.bool
def SiD.ok (s:SiD):Prop:=s.has.length=9/\s.had.length=9
def mvB (c:ChD)(s:SiD)(p:Int):Bool:=numB p 9&&c.thr.getD p.toNat false&&!(s.has.getD p.toNat false)
theorem zo5 (c:ChD)(s:SiD)(p:Int)(hc:c.ok)(hs:s.ok)(w:World) :
  Calls Tryz.prog 112 #[.agg c.cells.toArray,.agg s.cells.toArray,.int .i64 p] w fun e W=>e=.returned (.bool (mvB c s p))/\Below w.heap.size w W:=by
 have hq1:=zaf (belS _ (.cells s.cells.toArray 177)) (zbl (zal w (.cells c.cells.toArray 114)));have hq2:=zbl (zal (w.alloc (.cells c.cells.toArray 114)) (.cells s.cells.toArray 177));rw[show (w.alloc (.cells c.cells.toArray 114)).heap.size=w.heap.size+1 by simp]at hq2;have hB:=(belS w (.cells c.cells.toArray 114)).alloc (by simp) (.cells s.cells.toArray 177);have hnum:=fun w=>za5 p 9 w;obtain⟨R,hR⟩:∃ R,R=mvB c s p:=⟨_,rfl⟩;rw[<- hR];unfold mvB at hR;by_cases hp:0<=p/\p<9
 ·have hnn:numB p 9=true:=by unfold numB;simp;omega
  rw[hnn]at hnum hR;obtain⟨n,rfl⟩:∃ n:Nat,p=n:=⟨p.toNat,by omega⟩;rw[xj]at hR;obtain⟨x,hx⟩:∃ x,c.thr[n]?=some x:=⟨c.thr[n]'(by rw[hc.thr];omega),xg (by rw[hc.thr];omega)⟩;obtain⟨y,hy⟩:∃ y,s.has[n]?=some y:=⟨s.has[n]'(by rw[hs.1];omega),xg (by rw[hs.1];omega)⟩;have k1:=hq1 n (.bool x) (by rw[ChD.cells,xu,hc.get_thr hx];rfl);have k2:=hq2 n (.bool y) (by rw[SiD.cells,xu,xh (by rw[hs.1];omega),hy];rfl);rw[qe]at k1 k2;have hR1:R=(x&&!y):=by rw[hR];simp[qg,hx,hy]
  have hn0 := znn n;have hn9:(n:Int)<9:=hp.2;clear hR hq1 hq2 hx hy hc hs hnn hp;subst hR1;cases x<;>cases y<;>(
   go_enter Tryz.func112,Tryz.ntmps112
   go_wp2_with (go_at_call 178;refine(hnum _).mono ?_;rintro e _ ⟨rfl,rfl⟩)
   go_ret;exact⟨rfl,hB⟩)
 ·have hnn:numB p 9=false:=by unfold numB;simp;omega
  rw[hnn]at hnum hR;have hR1:R=false:=hR;clear hR hq1 hq2 hp hnn;subst hR1
  go_enter Tryz.func112,Tryz.ntmps112
  go_wp2_with (go_at_call 178;refine(hnum _).mono ?_;rintro e _ ⟨rfl,rfl⟩)
  go_ret;exact⟨rfl,hB⟩
end Go.Proofs.YtkkekopomiehlabGreatDoor
