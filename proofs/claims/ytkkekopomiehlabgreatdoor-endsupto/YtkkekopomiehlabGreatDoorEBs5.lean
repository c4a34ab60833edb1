import Derived.Test.YtkkekopomiehlabGreatDoorETl3
import Derived.Test.YtkkekopomiehlabGreatDoorRows
import Derived.Deep.Slices
import Derived.Deep.Strs
import Derived.Carry
set_option linter.unusedVariables false
set_option linter.unusedSimpArgs false
set_option maxHeartbeats 40000000
set_option maxRecDepth 4000
open List renaming getElem_cons_zero->xe,getElem_cons_succ->xf,getElem?_eq_some_iff->xg,getElem_toArray->xh,not_mem_nil->xm,mem_cons->xo,getElem?_eq_getElem->xv,range->xy,mem_of_getElem?->xz,getElem?_of_mem->qd
open Go.DataW renaming trod_struct->xj,trod->xp,Trod->qi
open Go.World renaming cells?_some->xq
open Nat renaming zero_le->xu,add_zero->qe,mul_one->qg,zero_add->qh
open Int renaming toNat_natCast->qf
namespace Go.Proofs.YtkkekopomiehlabGreatDoor
section
open Go.RowKit
theorem zyi {w:World}{base n:Nat}{v:Value}{ms:List (Int×Int)}(h:w.ownsRow base 62 2 v n (mvC ms))(hl:ms.length=n):∃ a c,v=.slice a n c/\MvsAt w a ms:=by
 obtain⟨a,c,e,_,hc⟩:=zbb h (by omega);refine⟨a,c,e,fun i m hi=>?_⟩;have d:=zpk hi;obtain⟨b,q1,_,k1⟩:=hc _ _ d.1;obtain⟨b',q2,_,k2⟩:=hc _ _ d.2;rw[q1]at q2;cases q2;exact⟨b,0,q1,by rw[qh];exact k1,by rw[qh];exact k2⟩
theorem zy7 (c keep n m:Int)(j:Nat)(k a b:Int)(f:zac)(hf:f=tlF j k a b)(hml:(tlM j).length<=3)(hS:Sfe f (tlM j))(hP:PlanIs f 512 (tlM j) 0)(w:World)
  (c1:∀ W,Calls Tryz.prog 19 #[.int .i64 c,.int .i64 keep,.int .i64 n,.int .i64 m] W fun e W'=>zjg j k a b W e W') :
  Calls Tryz.prog 10 #[.int .i64 c,.int .i64 keep,.int .i64 n,.int .i64 m] w fun e W=>zi9 f (tlM j) true w e W:=by
 unfold zjg at c1;rw[<- hf]at c1;have c2:=fun (sa ta va:Option Addr) (sl sc tl tc vl vc:Nat) (W:World) (h:FleetAt W sa sl sc ta tl tc va vl vc f)=>ziz f sa ta va sl sc tl tc vl vc W h;have c3:=fun (sa ta va:Option Addr) (sc tc vc:Nat) (W:World) (h:FleetAt W sa f.ss.length sc ta f.ts.length tc va f.vs.length vc f)=>ztm f sa ta va f.ss.length sc f.ts.length tc f.vs.length vc 512 W h;have c4:=fun (sa ta va:Option Addr) (sl sc tl tc vl vc:Nat) (ma:Option Addr) (mc:Nat) (W:World) (h:FleetAt W sa sl sc ta tl tc va vl vc f) (hm:MvsAt W ma (tlM j))=>zmz f sa ta va sl sc tl tc vl vc (tlM j) ma mc true W h hm hS;have HPI:=zaa hP;clear hf hS hP;generalize hM:tlM j=M at *;clear hM;obtain⟨q,hq⟩:∃ q,q=M.length:=⟨_,rfl⟩;have HQ:=zaa hq;rw[<- hq]at c1 c4 hml;clear hq
 go_enter Tryz.func10,Tryz.ntmps10
 go_wp2_with (first
  |(go_at_call 19;refine(c1 _).mono ?_;rintro e w1 hT;obtain⟨sa,sl,sc,ta,tl,tc,va,vl,vc,ma,mc,rfl,hF,hM1,hb1⟩:=hT;have HF:=zaa hF;have HM:=zaa hM1;have F1:=box3 w1 (.slice sa sl sc) (.slice ta tl tc) (.slice va vl vc) 26;have B1:=zaa (thn3 hb1 (bel1 w1 (.cells #[.slice sa sl sc,.slice ta tl tc,.slice va vl vc] 26)));clear hF hM1)
  |(go_at_call 21;refine(c2 _ _ _ _ _ _ _ _ _ _ (HF.out.keep (bel1 w1 _))).mono ?_;rintro e w2 hT;obtain⟨sa',sc',ta',tc',va',vc',rfl,hF,hb2⟩:=hT;have HF2:=zaa hF;have B2:=zaa (thn3 B1.out hb2);have f2:=zaq hb2 F1;clear hF)
  |(go_at_call 20;refine(c3 _ _ _ _ _ _ _ HF2.out).mono ?_;rintro e w3 ⟨⟨u,ms',er,rfl,ho,hPI⟩,hb3⟩;obtain⟨rfl,rfl⟩:=hPI.uniq HPI.out;rw[<- HQ.out]at ho;obtain⟨pa,pc,rfl,hM3⟩:=zyi ho HQ.out.symm;have HM3:=zaa hM3;have f3:=zaq hb3 f2;have B3:=zaa (thn3 B2.out hb3);have HA:=zaa (HM.out.keep (thn3 (thn3 (bel1 w1 _) hb2) hb3));clear ho hPI hM3))
 clear c1 c2 c3
 go_loopw [13] (fun vi wr=>∃ i:Nat,i<=q/\vi=.int .i64 i/\Below w3.heap.size w3 wr) (fun i _=>q-(intOf i).toNat)
 case atStart=>exact⟨0,xu _,rfl,Below.refl _ _⟩
 case round =>
  obtain⟨i,hi,rfl,hb5⟩:=hrel
  rename World=>w5
  have hx0 := znn i;by_cases hlt:i<q
  ·obtain⟨x,hmi⟩:∃ x,ms'[i]?=some x:=⟨ms'[i]'(by have:=HQ.out;omega),xv _⟩;obtain⟨b1,o1,rfl,k0,k1⟩:=HM3.out i x hmi;obtain⟨b2,o2,rfl,l0,l1⟩:=HA.out i x hmi;have k0:=zab hb5 k0;have k1:=zab hb5 k1;have l0:=zab hb5 l0;have l1:=zab hb5 l1;have hx1:(i:Int)<(q:Int):=by omega
   obtain⟨mx,my⟩:=x;simp only at k0 k1 l0 l1;have d1:(mx == mx)=true:=by simp
   have d2:(mx != mx)=false:=by simp
   have d3:decide (mx=mx)=true:=by simp
   have e1:(my == my)=true:=by simp
   have e2:(my != my)=false:=by simp
   have e3:decide (my=my)=true:=by simp
   clear hmi
   go_wp2_with fail
   go_quiet (fail)
   go_wp2_with fail
   go_roundw
   case rel=>exact⟨i+1,by omega,by go_num,below_drewN hb5 _⟩
   case measure=>simp[intOf];omega
  ·obtain rfl:q=i:=by omega
   have f5:=zaq hb5 f3;have B5:=zaa (thn3 B3.out hb5)
   go_wp2_with (first
    |(go_at_call 22;refine(c4 _ _ _ _ _ _ _ _ _ _ _ _ (HF.out.keep (thn3 (thn3 (thn3 (bel1 w1 _) hb2) hb3) hb5)) (HM3.out.keep hb5)).mono ?_;rintro e w6 hP6;obtain⟨gb,r,L,w0,rfl,hB,hz,hb6⟩:=hP6;have HB:=zaa hB;have HZ:=zaa hz;have B6:=zaa (thn3 B5.out hb6);clear hB hz hb6))
   go_ret;exact⟨gb,r,L,w0,rfl,HB.out,HZ.out,B6.out⟩
theorem zy6 (c keep n m:Int)(hc:-9223372036854775808<=c/\c<=9223372036854775807)(hk:-9223372036854775808<=keep/\keep<=9223372036854775807)(hn:-9223372036854775808<=n/\n<=9223372036854775807)(hm:-9223372036854775808<=m/\m<=9223372036854775807)(w:World):∃ (j:Nat) (k a b:Int) (f:zac),j<5/\(1<=k/\k<=6)/\f=tlF j k a b/\Sfe f (tlM j)/\Calls Tryz.prog 10 #[.int .i64 c,.int .i64 keep,.int .i64 n,.int .i64 m] w fun e W=>zi9 f (tlM j) true w e W:=by
 have b1:=zbn keep (n:=6) (by omega);have b2:=zbn n (n:=3) (by omega);have b3:=zbn m (n:=3) (by omega);have b4:=zbn c (n:=5) (by omega);obtain⟨f,hf⟩:∃ f,f=tlF (pckN c 5) (1+(pckN keep 6:Nat)) (1+(pckN n 3:Nat)) (1+(pckN m 3:Nat)):=⟨_,rfl⟩;obtain⟨hP,hS⟩:=yad0 b4 (by omega) (by omega) (by omega) hf;exact⟨_,_,_,_,f,b4,by omega,hf,zlm hS,zy7 c keep n m _ _ _ _ f hf (yadq _) (zlm hS) hP w (fun W=>yadi c keep n m hc hk hn hm W)⟩
end
section
open Go.RowKit
theorem zwr {w:World}{gb r nm:Nat}{sv:Value}(A:World->Prop)(B:Nat->World->Prop)(C D E F G:World->Prop)(hm:nm<=2000000)
  (c1:Calls Tryz.prog 11 #[.pointer (some ⟨gb,0,none⟩),sv] w fun e W=>e=.returned (.bool true)/\A W)
  (jA:∀ W,A W->W.cell? ⟨gb,5,none⟩=some (.pointer (some ⟨r,0,none⟩)))
  (c2:∀ W,A W->Calls Tryz.prog 28 #[.pointer (some ⟨r,0,none⟩),.bool false] W fun e W=>(∃ n,e=.returned (.int .i64 n))/\B 0 W)
  (jB:∀ k W,B k W->∃ ma mc,W.cell? ⟨gb,3,none⟩=some (.slice ma nm mc))
  (c3:∀ k W,k<(nm+1)*9->B k W->Calls Tryz.prog 29 #[.pointer (some ⟨gb,0,none⟩)] W fun e W=>e=.returned (.bool true)/\B (k+1) W)
  (c4:∀ W,B ((nm+1)*9) W->Calls Tryz.prog 30 #[.pointer (some ⟨gb,0,none⟩)] W fun e W=>e=.returned (.bool true)/\C W)
  (jC:∀ W,C W->W.cell? ⟨gb,5,none⟩=some (.pointer (some ⟨r,0,none⟩)))
  (c5:∀ W,C W->Calls Tryz.prog 31 #[.pointer (some ⟨r,0,none⟩)] W fun e W=>e=.returned (.int .i64 17)/\D W)
  (jD:∀ W,D W->W.cell? ⟨gb,5,none⟩=some (.pointer (some ⟨r,0,none⟩)))
  (c6:∀ W,D W->Calls Tryz.prog 32 #[.pointer (some ⟨r,0,none⟩)] W fun e W=>e=.returned (.tuple #[])/\E W)
  (c7:∀ W,E W->Calls Tryz.prog 29 #[.pointer (some ⟨gb,0,none⟩)] W fun e W=>(∃ x,e=.returned (.bool x))/\F W)
  (c8:∀ W,F W->Calls Tryz.prog 30 #[.pointer (some ⟨gb,0,none⟩)] W fun e W=>e=.returned (.bool true)/\G W) :
  Calls Tryz.prog 14 #[.pointer (some ⟨gb,0,none⟩),sv] w fun e W=>e=.returned (.bool true)/\G W:=by
 have JB:=zaa jB;clear jB
 go_enter Tryz.func14,Tryz.ntmps14
 go_wp2_with (first
  |(go_at_call 11;refine c1.mono ?_;rintro e w1 ⟨rfl,hA⟩;have y5:=jA _ hA)
  |(go_at_call 28;refine(c2 _ hA).mono ?_;rintro e w2 ⟨⟨pn,rfl⟩,hB0⟩))
 go_loopw [6] (fun vi wr=>∃ k:Nat,k<=(nm+1)*9/\vi=.int .i64 k/\B k wr) (fun i _=>(nm+1)*9-(intOf i).toNat)
 case atStart=>exact⟨0,xu _,rfl,hB0⟩
 case round =>
  obtain⟨k,hk,rfl,hB⟩:=hrel
  rename World=>w3
  obtain⟨ma,mc,z3⟩:=JB.out k w3 hB;have hk0 := znn k;by_cases hkn:k<(nm+1)*9
  ·have hki:(k:Int)<((nm:Int)+1)*9:=by omega
   go_wp2_with (first
    |(go_at_call 29;refine(c3 k _ hkn hB).mono ?_;rintro e w4 ⟨rfl,hB4⟩))
   go_roundw
   case rel=>exact⟨k+1,by omega,by go_num,hB4⟩
   case measure=>simp[intOf];omega
  ·obtain rfl:k=(nm+1)*9:=by omega
   have hki:¬ ((((nm+1)*9:Nat):Int)<((nm:Int)+1)*9):=by omega
   go_wp2_with (first
    |(go_at_call 30;have hq:=hF;refine(c8 _ hF).mono ?_;rintro e w9 ⟨rfl,hG⟩)
    |(go_at_call 30;refine(c4 _ hB).mono ?_;rintro e w5 ⟨rfl,hC⟩;have z5:=jC _ hC)
    |(go_at_call 31;refine(c5 _ hC).mono ?_;rintro e w6 ⟨rfl,hD⟩;have v5:=jD _ hD)
    |(go_at_call 32;refine(c6 _ hD).mono ?_;rintro e w7 ⟨rfl,hE⟩)
    |(go_at_call 29;refine(c7 _ hE).mono ?_;rintro e w8 ⟨⟨x,rfl⟩,hF⟩))
   go_ret;exact⟨rfl,hG⟩
end
section
open Go.RowKit
variable {w0 w W:World}{L:Nat->Nat}{gb r:Nat}{f:zac}{ms:List (Int×Int)}{tale:Bool}{N:Int}
theorem zlo (h:Std w0 gb r f ms tale N W):Below w0.heap.size w0 W:=by
 obtain⟨b,L,⟨sa,ta,va,ma,sl,sc,tl,tc,vl,vc,mc,nv,h⟩,_⟩:=h;exact h.bel
theorem StsAt.keep {ad:Option Addr}{xs:List StD}(h:StsAt w ad xs)(hb:Below w.heap.size w W):StsAt W ad xs:=fun i x hi=>by
 obtain⟨b,o,e,h0,h1,h2,h3,h4⟩:=h i x hi;exact⟨b,o,e,zab hb h0,zab hb h1,zab hb h2,zab hb h3,zab hb h4⟩
def StB (xs:List StD):Prop:=∀ x∈xs,(-9223372036854775808<=x.a/\x.a<=9223372036854775807)/\(-9223372036854775808<=x.b/\x.b<=9223372036854775807)/\(-9223372036854775808<=x.c/\x.c<=9223372036854775807)/\x.s.size<=maxLen
theorem zjn (hS:Sfe f ms)(h:BookE w0 W L gb r (bok0 f ms tale)):Std w0 gb r f ms tale 0 W:=⟨_,L,h,zus hS tale,rfl,rfl,rfl⟩
theorem yad1 {j:Nat}{k a b:Int}(hj:j<5)(c:Int)(hc:-9223372036854775808<=c/\c<=9223372036854775807):∀ v∈(tlF j k a b).vs,∀ ps∈v.rels,∀ p∈ps,numB p.w (tlF j k a b).ss.length=true->∀ W,Calls Tryz.prog 123 #[.string (schO (tlF j k a b).ss p.w),.int .i64 c] W fun e W'=>zbz (schO (tlF j k a b).ss p.w) W e W':=by
 have hw:∀ v∈(tlF j k a b).vs,∀ ps∈v.rels,∀ p∈ps,p.w=-1\/p.w=0\/p.w=1:=by
  intro v hv ps hps p hp;have:j=0\/j=1\/j=2\/j=3\/j=4:=by omega
  rcases this with rfl|rfl|rfl|rfl|rfl
  all_goals
   simp only[tlF,xo,xm,or_false,svW,svR,svR3,svO]at hv
   first
    |(rcases hv with rfl|rfl<;>simp only[xo,xm,or_false]at hps<;>first|(rcases hps with rfl|rfl<;>simp only[xo,xm,or_false]at hp<;>subst hp<;>simp)|(rcases hps with rfl|rfl|rfl<;>simp only[xo,xm,or_false]at hp<;>subst hp<;>simp))
    |(subst hv;simp only[xo,xm,or_false]at hps;rcases hps with rfl|rfl|rfl<;>simp only[xo,xm,or_false]at hp<;>subst hp<;>simp)
 intro v hv ps hps p hp hn W;have h0:=zyp hn;have hjj:j=0\/j=1\/j=2\/j=3\/j=4:=by omega
 rcases hw v hv ps hps p hp with q|q|q
 ·omega
 ·rw[q];rcases hjj with rfl|rfl|rfl|rfl|rfl
  iterate 3
   ·exact zim c W
  ·exact yabz c hc W
  ·exact zim c W
 ·rw[q];rcases hjj with rfl|rfl|rfl|rfl|rfl
  ·exact yab3 c W
  ·exact yab0 c W
  ·exact yab1 c W
  ·exact yab4 c hc W
  ·exact yab2 c W
theorem yaal {ad:Option Addr}{xs:List StD}{cp:Nat}(hT:Tab w0)(hst:StsAt w0 ad xs)(hxl:xs.length<=2000000)(hxb:StB xs)(hz:w0.heap.size<=gb)(h:Std w0 gb r f ms false 0 w):Calls Tryz.prog 11 #[.pointer (some ⟨gb,0,none⟩),.slice ad xs.length cp] w fun e W=>e=.returned (.bool true)/\Std w0 gb r f ms false xs.length W:=by
 refine zqu (fun k W=>Std w0 gb r f ms false (k:Int) W) hxl (fun k W hk=>hst.keep (zlo hk)) (fun k x W hx hk=>?_) h;have hkl:=(xg.1 hx).1;obtain⟨b1,b2,b3,b4⟩:=hxb x (xz hx);have:=zr2 b1 b2 (by omega) hz hk (fun s v i W' hv hi hs=>yaer hT s v i W' hv hi hs) (fun W' h5 hs=>yaar h5 b1 b2 b4 hs);rw[show ((k+1:Nat):Int)=(k:Int)+1 by omega];exact this
theorem yaam {ad:Option Addr}{xs:List StD}{cp j:Nat}{k a b:Int}(hj:j<5)(hk:1<=k/\k<=6)(hf:f=tlF j k a b)(hT:Tab w0)(hst:StsAt w0 ad xs)(hxl:xs.length<=2000000)(hxb:StB xs)(hz:w0.heap.size<=gb)(h:Std w0 gb r f ms true 0 w):Calls Tryz.prog 11 #[.pointer (some ⟨gb,0,none⟩),.slice ad xs.length cp] w fun e W=>e=.returned (.bool true)/\Std w0 gb r f ms true xs.length W:=by
 have htl:Tlf f:=by rw[hf];exact tl_f hk
 refine zqu (fun k W=>Std w0 gb r f ms true (k:Int) W) hxl (fun k W hk=>hst.keep (zlo hk)) (fun k x W hx hk=>?_) h;have hkl:=(xg.1 hx).1;obtain⟨b1,b2,b3,b4⟩:=hxb x (xz hx);have:=zr2 b1 b2 (by omega) hz hk (fun s v i W' hv hi hs=>yaes hT htl (by omega) s v i W' hv hi hs) (fun W' h5 hs'=>yaas h5 b1 b2 b3 htl (by omega) hz (by rw[hf];exact yad1 hj x.c b3) hs');rw[show ((k+1:Nat):Int)=(k:Int)+1 by omega];exact this
end
section
open Go.RowKit
theorem Inv.done {N:Int}{b:zav}(h:Inv N b)(ho:zaj b.P.c=true):b.P.c.st=(if b.ab then 4 else 3)/\∀ (s:Nat) v,b.f.vs[s]?=some v->∀ i:Nat,(i:Int)<v.size->hasB b.P.vs s i=true/\(insG b.P.vs s i).r=zfv b (!b.ab) s v:=by
 have hw:=zid h.pi.sh ho;have hs:=h.pi.sh.st;have h34:b.P.c.st=3\/b.P.c.st=4:=by unfold zaj at ho;exact of_decide_eq_true ho
 have hab:=h.ab;unfold bckP at hab;have hn:(zb8 b.f b.ms).n=b.ms.length:=rfl;have key:∀ (s:Nat) v,b.f.vs[s]?=some v->∀ i:Nat,(i:Int)<v.size->hasB b.P.vs s i=true/\(insG b.P.vs s i).r=hasI v.now b.ms s b.P.c.pos.toNat:=fun s v hv i hi=>by
  obtain⟨V,y,a,ps,q⟩:=h.inst hv hi;refine⟨q.hb,?_⟩;rcases h.pi.nt.i1 s i q.hb with e|⟨e,_⟩
  ·rw[e];show hasI (nowI b.f (s:Int).toNat) b.ms s _=_;rw[qf,zib hv]
  ·rw[hw]at e;cases e
 cases hb:b.ab with
 |true =>
  have h4:b.P.c.st=4:=by have:=hab.1 hb;omega
  have hp:b.P.c.pos=0:=by omega
  rw[hp]at key;exact⟨h4,key⟩
 |false =>
  have h3:b.P.c.st=3:=by
   rcases h34 with q|q
   ·exact q
   ·have:=hab.2 (.inr q);rw[hb]at this;cases this
  have hp:b.P.c.pos=b.ms.length:=by omega
  rw[hp,qf]at key;exact⟨h3,key⟩
theorem zqz {X:WayD}{P:zad}(hs:Shp X P.vs P.c)(ho:zaj P.c=true):(quiP P).c=P.c:=by
 have e:=zhz 80 (zid hs ho);show actC (dlvN 80 P).c ((dlvN 80 P).ti+1)=_;rw[e];unfold actC;rw[ho];simp
theorem zqy:∀ (n:Nat) (P:zad),quiN (n+1) P=quiP (quiN n P)
 |0,P=>rfl
 |n+1,P=>by
  show quiN (n+1) (quiP P)=quiP (quiN n (quiP P));exact zqy n (quiP P)
variable {w0 w W:World}{L:Nat->Nat}{gb r:Nat}{f:zac}{ms:List (Int×Int)}{tale:Bool}{N:Int}
def Rnd (w0:World)(gb r:Nat)(f:zac)(ms:List (Int×Int))(tale:Bool)(N:Int)(k:Nat)(W:World):Prop:=∃ b L,BookE w0 W L gb r b/\Inv (N+k) b/\b.f=f/\b.ms=ms/\b.tale=tale/\(zaj b.P.c=true\/∃ P0,PInv (zb8 f ms) (Wrt f) P0/\Ext P0/\P0.c.pa=false/\b.P=quiN k P0)
def Ovr (w0:World)(gb r:Nat)(f:zac)(ms:List (Int×Int))(tale:Bool)(N:Int)(W:World):Prop:=∃ b L,BookE w0 W L gb r b/\Inv N b/\b.f=f/\b.ms=ms/\b.tale=tale/\zaj b.P.c=true
theorem Ovr.std (h:Ovr w0 gb r f ms tale N W):Std w0 gb r f ms tale N W:=by
 obtain⟨b,L,h1,h2,h3,h4,h5,_⟩:=h;exact⟨b,L,h1,h2,h3,h4,h5⟩
theorem Ovr.keep (h:Ovr w0 gb r f ms tale N w)(hb:Below w.heap.size w W):Ovr w0 gb r f ms tale N W:=by
 obtain⟨b,L,h1,h2⟩:=h;exact⟨b,L,h1.keep hb,h2⟩
theorem Ovr.settled (h:Ovr w0 gb r f ms tale N w):Calls Tryz.prog 30 #[.pointer (some ⟨gb,0,none⟩)] w fun e W=>e=.returned (.bool true)/\Ovr w0 gb r f ms tale N W:=by
 have hs:=h;obtain⟨b,L,hB,hI,rfl,rfl,rfl,ho⟩:=h;have hO:=zb3 hI.sf.ob;have hv3:=hO.vs3;have hml:=hI.sf.l200;obtain⟨h1,h2⟩:=hI.done ho;refine(yace (by omega) (by omega) (fun v hv=>?_) h1 h2 hB).mono fun e W q=>⟨q.1,hs.keep q.2⟩;obtain⟨s,hs'⟩:=qd hv;have:=(zg1 hO hs').2;omega
theorem Ovr.quiet (hN:N<=3000000000)(hz:w0.heap.size<=gb)(h:Ovr w0 gb r f ms tale N w):Calls Tryz.prog 29 #[.pointer (some ⟨gb,0,none⟩)] w fun e W=>e=.returned (.bool true)/\Ovr w0 gb r f ms tale (N+1) W:=by
 obtain⟨b,L,hB,hI,rfl,rfl,rfl,ho⟩:=h;have hti:=hI.bn.ti;have hbt:0<=b.ti/\b.ti<=3000000000:=by rw[hI.ti];omega
 refine(zk7 hI.pi hI.ex hI.bn hN hbt hz hB).mono ?_;rintro e W ⟨rfl,L',hB'⟩;exact⟨rfl,_,L',hB',hI.qui,rfl,rfl,rfl,by show zaj (quiP b.P).c=true;rw[zqz hI.pi.sh ho];exact ho⟩
theorem Ovr.abort (h:Ovr w0 gb r f ms tale N w):Calls Tryz.prog 31 #[.pointer (some ⟨r,0,none⟩)] w fun e W=>e=.returned (.int .i64 17)/\Ovr w0 gb r f ms tale N W:=by
 obtain⟨b,L,hB,hI,rfl,rfl,rfl,ho⟩:=h;have h4:=hI.pi.sh.p0;have h5:=hI.pi.sh.pn;have h6:(zb8 b.f b.ms).n=b.ms.length:=rfl;have h7:=hI.sf.l200;have e1:abtE b.P=17:=by unfold abtE;rw[if_pos ho]
 have e2:abtP b.P=b.P:=by unfold abtP;rw[if_pos ho]
 refine(zl1 (by omega) hB.x.2.2.2).mono ?_;rintro e W ⟨rfl,ht⟩;obtain⟨L',hB'⟩:=hB.turn ht;rw[e1];rw[e2]at hB';exact⟨rfl,_,L',hB',hI,rfl,rfl,rfl,ho⟩
theorem Ovr.crash (hN:N<=3000000000)(h:Ovr w0 gb r f ms tale N w):Calls Tryz.prog 32 #[.pointer (some ⟨r,0,none⟩)] w fun e W=>e=.returned (.tuple #[])/\Ovr w0 gb r f ms tale N W:=by
 obtain⟨b,L,hB,hI,rfl,rfl,rfl,ho⟩:=h;have hti:=hI.bn.ti;have hr6:=hI.ex.r6;have hr0:=hI.ex.r0;have e2:crsP b.P=b.P:=by unfold crsP crsC;rw[if_pos ho]
 refine(zq1 (by omega) hB.x.2.2.2).mono ?_;rintro e W ⟨rfl,ht⟩;obtain⟨L',hB'⟩:=hB.turn ht;rw[e2]at hB';exact⟨rfl,_,L',hB',hI,rfl,rfl,rfl,ho⟩
theorem Std.c5 (h:Std w0 gb r f ms tale N W):W.cell? ⟨gb,5,none⟩=some (.pointer (some ⟨r,0,none⟩)):=by
 obtain⟨b,L,hB,_⟩:=h;exact hB.x.1
theorem Std.pause (h:Std w0 gb r f ms tale N w):Calls Tryz.prog 28 #[.pointer (some ⟨r,0,none⟩),.bool false] w fun e W=>(∃ n,e=.returned (.int .i64 n))/\Rnd w0 gb r f ms tale N 0 W:=by
 obtain⟨b,L,hB,hI,rfl,rfl,rfl⟩:=h;refine(zq4 false hB.x.2.2.2).mono ?_;rintro e W ⟨he,ht⟩;obtain⟨L',hB'⟩:=hB.turn ht;refine⟨he,_,L',hB',by have:=hI.pau false;simpa using this,rfl,rfl,rfl,?_⟩;have hi:=(hI.pau false);cases ho:zaj b.P.c with
 |true=>left;simp only[if_true];exact ho
 |false =>
  rw[ho]at hi;simp only[Bool.false_eq_true,if_false]at hi ⊢;exact .inr ⟨_,hi.pi,hi.ex,rfl,rfl⟩
theorem Rnd.c3 {k:Nat}(h:Rnd w0 gb r f ms tale N k W):∃ ma mc,W.cell? ⟨gb,3,none⟩=some (.slice ma ms.length mc):=by
 obtain⟨b,L,hB,hI,rfl,rfl,rfl,_⟩:=h;obtain⟨va,ma,vc,mc,hV⟩:=hB.v;exact⟨ma,mc,(hV W (Below.refl _ _)).1.x3⟩
theorem Rnd.quiet {k:Nat}(hN:N+k<=3000000000)(hz:w0.heap.size<=gb)(h:Rnd w0 gb r f ms tale N k w):Calls Tryz.prog 29 #[.pointer (some ⟨gb,0,none⟩)] w fun e W=>e=.returned (.bool true)/\Rnd w0 gb r f ms tale N (k+1) W:=by
 obtain⟨b,L,hB,hI,rfl,rfl,rfl,ho⟩:=h;have hti:=hI.bn.ti;have hbt:0<=b.ti/\b.ti<=3000000000:=by rw[hI.ti];omega
 refine(zk7 hI.pi hI.ex hI.bn hN hbt hz hB).mono ?_;rintro e W ⟨rfl,L',hB'⟩;refine⟨rfl,_,L',hB',by have:=hI.qui;rw[show N+((k+1:Nat):Int)=N+(k:Int)+1 by omega];exact this,rfl,rfl,rfl,?_⟩;rcases ho with ho|⟨P0,h1,h2,h3,h4⟩
 ·left;show zaj (quiP b.P).c=true;rw[zqz hI.pi.sh ho];exact ho
 ·right;exact⟨P0,h1,h2,h3,by show quiP b.P=_;rw[h4,zqy]⟩
theorem Rnd.over (h:Rnd w0 gb r f ms tale N ((ms.length+1)*9) W):Ovr w0 gb r f ms tale (N+(((ms.length+1)*9:Nat):Int)) W:=by
 obtain⟨b,L,hB,hI,rfl,rfl,rfl,ho⟩:=h;refine⟨b,L,hB,hI,rfl,rfl,rfl,?_⟩;rcases ho with ho|⟨P0,h1,h2,h3,h4⟩
 ·exact ho
 ·rw[h4,Nat.mul_comm];exact(yaaw h1 h2 h3).2
theorem zoo {sv:Value}(hml:ms.length<=2000000)(hN:N<=2000000)(hz:w0.heap.size<=gb)(c1:Calls Tryz.prog 11 #[.pointer (some ⟨gb,0,none⟩),sv] w fun e W=>e=.returned (.bool true)/\Std w0 gb r f ms tale N W):Calls Tryz.prog 14 #[.pointer (some ⟨gb,0,none⟩),sv] w fun e W=>e=.returned (.bool true)/\Below w0.heap.size w0 W:=by
 obtain⟨M,hM⟩:∃ M,M=N+(((ms.length+1)*9:Nat):Int):=⟨_,rfl⟩;refine zwr (r:=r) (nm:=ms.length) (Std w0 gb r f ms tale N) (Rnd w0 gb r f ms tale N) (Ovr w0 gb r f ms tale M) (Ovr w0 gb r f ms tale M) (Ovr w0 gb r f ms tale M) (Ovr w0 gb r f ms tale (M+1)) (fun W=>Below w0.heap.size w0 W) hml c1 (fun W h=>h.c5) (fun W h=>h.pause) (fun k W h=>h.c3) (fun k W hk h=>h.quiet (by omega) hz) (fun W h=>?_) (fun W h=>h.std.c5) (fun W h=>h.abort) (fun W h=>h.std.c5) (fun W h=>h.crash (by omega)) (fun W h=>(h.quiet (by omega) hz).mono fun e W' q=>⟨⟨_,q.1⟩,q.2⟩) (fun W h=>h.settled.mono fun e W' q=>⟨q.1,zlo q.2.std⟩);rw[hM];exact h.over.settled
end
section
open Go.RowKit
theorem zwv (c keep n m:Int)(hc:-9223372036854775808<=c/\c<=9223372036854775807)(hk:-9223372036854775808<=keep/\keep<=9223372036854775807)(hn:-9223372036854775808<=n/\n<=9223372036854775807)(hm:-9223372036854775808<=m/\m<=9223372036854775807)(f:zac)(sa ta va:Option Addr)(sl sc tl tc vl vc:Nat)(ms:List (Int×Int))(ma:Option Addr)(mc:Nat)(xs:List StD)(ad:Option Addr)(cp:Nat)(w:World)(hf:FleetAt w sa sl sc ta tl tc va vl vc f)(hms:MvsAt w ma ms)(hml:ms.length<=2000000)(hst:StsAt w ad xs)(hxl:xs.length<=2000000)(hxb:StB xs)(hT:Tab w) :
  Calls Tryz.prog 6 #[.int .i64 c,.int .i64 keep,.int .i64 n,.int .i64 m,.agg #[.slice sa sl sc,.slice ta tl tc,.slice va vl vc],.slice ma ms.length mc,.slice ad xs.length cp] w fun e W=>e=.returned (.bool true)/\Below w.heap.size w W:=by
 have B0:=zaa (bel1 w (.cells #[.slice sa sl sc,.slice ta tl tc,.slice va vl vc] 26));have F0:=box3 w (.slice sa sl sc) (.slice ta tl tc) (.slice va vl vc) 26;obtain⟨j,k,a,b,ft,hj,hkk,hft,hSf,c1⟩:=zy6 c keep n m hc hk hn hm (w.alloc (.cells #[.slice sa sl sc,.slice ta tl tc,.slice va vl vc] 26));have htl:(tlM j).length<=2000000:=by have:=hSf.l200;omega
 have c2:=fun (w0 W:World) (gb r:Nat) (hb:Below w.heap.size w w0) (hz:w0.heap.size<=gb) (h:Std w0 gb r ft (tlM j) true 0 W)=>zoo htl (by omega) hz (yaam (cp:=cp) hj hkk hft (hT.keep hb) (hst.keep hb) hxl hxb hz h);have c5:=fun (w0 W:World) (gb r:Nat) (hb:Below w.heap.size w w0) (hz:w0.heap.size<=gb) (h:Std w0 gb r f ms false 0 W)=>zoo hml (by omega) hz (yaal (cp:=cp) (hT.keep hb) (hst.keep hb) hxl hxb hz h);by_cases hSF:Sfe f ms
 ·have c4:=fun (W:World) (h:Below w.heap.size w W)=>zug hSF (zmv f sa ta va sl sc tl tc vl vc ms ma mc W (hf.keep h) (hms.keep h) hml);have HSY:=zaa hSF;have HSF:=zaa hSf;clear hc hk hn hm hf hms hst hxb hT hSf hft hkk hj htl;generalize tlM j=M at *;obtain⟨q,hq⟩:∃ q,q=ms.length:=⟨_,rfl⟩;obtain⟨p,hp⟩:∃ p,p=xs.length:=⟨_,rfl⟩;rw[<- hq]at c4 ⊢;rw[<- hp]at c2 c5 ⊢;clear hq hp hml hxl hSF
  go_enter Tryz.func6,Tryz.ntmps6
  go_wp2_with (first
   |(go_at_call 10;refine c1.mono ?_;rintro e w1 hP;obtain⟨gb,r,L,w0,rfl,hB,hz,hb0⟩:=hP;have HBX:=zaa hb0;have HB0:=zaa (thn3 B0.out hb0);have HZ:=zaa hz;have S1:=zaa (zjn HSF.out hB);clear hB hz hb0)
   |(go_at_call 14;have hq:=S4;refine(c5 w0' _ gb' r' HB0'.out HZ'.out S4.out).mono ?_;rintro e w5 ⟨rfl,hb5⟩)
   |(go_at_call 14;refine(c2 w0 _ gb r HB0.out HZ.out S1.out).mono ?_;rintro e w3 ⟨rfl,hb3⟩;have X3:=zaa (HBX.out.trans (hb3.mono HBX.out.size));have B3:=zaa (thn3 B0.out X3.out);have f3:=zaq X3.out F0)
   |(go_at_call 13;refine(c4 _ B3.out).mono ?_;rintro e w4 ⟨gb',r',L',w0',rfl,hB4,hz4,hb4⟩;have HB0':=zaa (thn3 B3.out hb4);have HZ':=zaa hz4;have S4:=zaa (zjn HSY.out hB4);clear hB4 hz4 hb4))
  go_ret;exact⟨rfl,HB0'.out.trans (hb5.mono HB0'.out.size)⟩
 ·have c4:=fun (W:World) (h:Below w.heap.size w W)=>zuf hSF (zmv f sa ta va sl sc tl tc vl vc ms ma mc W (hf.keep h) (hms.keep h) hml);have HSF:=zaa hSf;clear hc hk hn hm hf hms hst hxb hT hSf hft hkk hj htl;generalize tlM j=M at *;obtain⟨q,hq⟩:∃ q,q=ms.length:=⟨_,rfl⟩;obtain⟨p,hp⟩:∃ p,p=xs.length:=⟨_,rfl⟩;rw[<- hq]at c4 ⊢;rw[<- hp]at c2 ⊢;clear hq hp hml hxl hSF c5
  go_enter Tryz.func6,Tryz.ntmps6
  go_wp2_with (first
   |(go_at_call 10;refine c1.mono ?_;rintro e w1 hP;obtain⟨gb,r,L,w0,rfl,hB,hz,hb0⟩:=hP;have HBX:=zaa hb0;have HB0:=zaa (thn3 B0.out hb0);have HZ:=zaa hz;have S1:=zaa (zjn HSF.out hB);clear hB hz hb0)
   |(go_at_call 14;refine(c2 w0 _ gb r HB0.out HZ.out S1.out).mono ?_;rintro e w3 ⟨rfl,hb3⟩;have X3:=zaa (HBX.out.trans (hb3.mono HBX.out.size));have B3:=zaa (thn3 B0.out X3.out);have f3:=zaq X3.out F0)
   |(go_at_call 13;refine(c4 _ B3.out).mono ?_;rintro e w4 ⟨rfl,hb4⟩))
  go_ret;exact⟨rfl,thn3 B3.out hb4⟩
end
section
open Go.RowKit Go.ChangeShapes Go.WideShapes
theorem zu1 {H:Type}(d:DataW H):1<=Rows.uptoBulk d:=by
 cases d with
 |lit l=>cases l<;>simp[Rows.uptoBulk]
 |_=>simp[Rows.uptoBulk]
theorem zjt {H:Type}:∀ (l:List (DataW H)) (d:DataW H),d∈l->Rows.uptoBulk d<=Rows.uptoBulkAll l
 |e::l,d,h=>by
  rw[Rows.uptoBulkAll];rcases xo.1 h with rfl|h
  ·omega
  ·have:=zjt l d h;omega
theorem zjs {H:Type}:∀ (l:List (DataW H)),l.length<=Rows.uptoBulkAll l
 |[]=>xu _
 |d::l=>by have:=zu1 d;have:=zjs l;rw[Rows.uptoBulkAll,List.length_cons];omega
theorem zpe {α:Type}{p:Nat->α->Prop}:∀ (n:Nat),(∀ i,i<n->∃ z,p i z)->∃ zs:List α,zs.length=n/\∀ i z,zs[i]?=some z->p i z
 |0,_=>⟨[],rfl,fun i z h=>by simp at h⟩
 |n+1,h=>by
  obtain⟨zs,h1,h2⟩:=zpe n (fun i hi=>h i (by omega));obtain⟨z,hz⟩:=h n (by omega);refine⟨zs++[z],by simp[h1],fun i u hi=>?_⟩;by_cases hl:i<zs.length
  ·rw[List.getElem?_append_left hl]at hi;exact h2 i u hi
  ·have:=(xg.1 hi).1;rw[List.length_append,List.length_singleton]at this;have hie:i=n:=by omega
   subst hie;rw[List.getElem?_append_right (by omega),h1,Nat.sub_self]at hi;simp at hi;rw[<- hi];exact hz
section
variable {H:Type}{enc:TypeId×Value->H}{P:Program}{w:World}
theorem zua (b o m j:Nat):((⟨b,o,none⟩:Addr).add m).add j=⟨b,o+m+j,none⟩:=by
 unfold Addr.add;by_cases h1:m=0
 ·subst h1;by_cases h2:j=0
  ·subst h2;rfl
  ·simp[h2]
 ·by_cases h2:j=0
  ·subst h2;simp[h1]
  ·simp[h1,h2]
theorem ze1 {α:Type}{E:List Value->α->Prop}{t e:TypeId}{k fuel:Nat}{cs0:List Value}{x:DataW H×List MemPlace}(ht:P.underlying t=some (.slice e))(hk:P.cellsOf e=k)(hk0:0<k)
  (hE:∀ (n:Nat) (cs:List Value) (y:DataW H×List MemPlace),xp enc P w 0 (fun _=>true) true n e cs=some y->cs.length=k->Rows.uptoBulk y.1<=1048576->∃ z,E cs z)
  (h:xp enc P w 0 (fun _=>true) true fuel t cs0=some x) (hN:Rows.uptoBulk x.1<=1048576) :
  ∃ (a:Option Addr) (len cap:Nat) (zs:List α),cs0=[.slice a len cap]/\len=zs.length/\zs.length<=2000000/\len<=cap/\cap<=9000000 /\
   ∀ (i:Nat) (z:α),zs[i]?=some z->∃ b o cs,a=some ⟨b,o,none⟩/\cs.length=k/\(∀ (j:Nat) (v:Value),cs[j]?=some v->w.cell? ⟨b,o+i*k+j,none⟩=some v)/\E cs z:=by
 rcases Go.Deep.open_slice ht h with⟨rfl,rfl⟩|⟨a,len,cap,m,n,D,Pl,rfl,hb,hl,hm,hmm,rfl,hx⟩
 ·exact⟨none,0,0,[],rfl,rfl,xu _,Nat.le_refl _,xu _,fun i z hi=>by simp at hi⟩
 ·simp only[if_true]at hmm;subst hmm;rw[hk]at hx;have hbul:Rows.uptoBulkAll ((xy len).map D)+Rows.uptoBulkAll ((xy (m-len)).map fun j=>D (len+j))+1<=1048576:=by
   have:=hN;simp only[Rows.uptoBulk]at this;exact this
  have hl1:=zjs ((xy len).map D);have hl2:=zjs ((xy (m-len)).map fun j=>D (len+j));rw[List.length_map,List.length_range]at hl1 hl2;obtain⟨zs,hz1,hz2⟩:=zpe (α:=α) (p:=fun i z=>∃ cs,w.cells? 0 (a.add (i*k)) k=some cs/\E cs z) len (fun i hi=>by
   obtain⟨cs',h1,h2⟩:=hx i (by omega);have hd:Rows.uptoBulk (D i)<=1048576:=by
    have:=zjt ((xy len).map D) (D i) (List.mem_map.2 ⟨i,List.mem_range.2 hi,rfl⟩);omega
   obtain⟨z,hz⟩:=hE n cs' (D i,Pl i) h2 (xq h1).2.1 hd;exact⟨z,cs',h1,hz⟩)
  refine⟨some a,len,m,zs,rfl,hz1.symm,by omega,hl,by omega,fun i z hi=>?_⟩;obtain⟨cs,h1,h2⟩:=hz2 i z hi;have hil:=(xg.1 hi).1;obtain⟨cs',g1,_⟩:=hx 0 (by omega);obtain⟨_,g2,g3⟩:=xq g1;have g4:=g3 0 hk0;obtain⟨v0,hv0⟩:∃ v0,cs'[0]?=some v0:=⟨cs'[0]'(by omega),xv (by omega)⟩;rw[hv0,Nat.zero_mul]at g4;obtain⟨b,o,sp⟩:=a;obtain rfl:sp=none:=by simpa[Addr.add]using World.cell?_spot g4
  obtain⟨_,q1,q2⟩:=xq h1;refine⟨b,o,cs,rfl,q1,fun j v hj=>?_,h2⟩;have:=q2 j (by have:=(xg.1 hj).1;omega);rw[zua,hj]at this;exact this
theorem zy3 {t e:TypeId}{fuel:Nat}{cs0:List Value}{x:DataW H×List MemPlace}(ht:P.underlying t=some (.slice e))(he:P.underlying e=some .string)(hk:P.cellsOf e=1)
  (h:xp enc P w 0 (fun _=>true) true fuel t cs0=some x) (hN:Rows.uptoBulk x.1<=1048576) :
  ∃ (a:Option Addr) (len cap:Nat) (ss:List ByteArray),cs0=[.slice a len cap]/\len=ss.length/\ss.length<=2000000/\(∀ s∈ss,s.size<=maxLen)/\StrsAt w a ss:=by
 obtain⟨a,len,cap,zs,h1,h2,h3,h4,h5,h6⟩:=ze1 (E:=fun cs (z:ByteArray)=>cs=[.string z]/\z.size<=maxLen) ht hk (by omega) (fun n cs y hy _ _=>by
  obtain⟨s,hs,_,hsz⟩:=DataW.trod_string he hy;exact⟨s,hs,hsz⟩) h hN
 refine⟨a,len,cap,zs,h1,h2,h3,fun s hs=>?_,fun i s hi=>?_⟩
 ·obtain⟨i,hi⟩:=qd hs;obtain⟨_,_,_,_,_,_,_,g⟩:=h6 i s hi;exact g
 ·obtain⟨b,o,cs,e1,_,e3,e4,_⟩:=h6 i s hi;refine⟨b,o,e1,?_⟩;have:=e3 0 (.string s) (by rw[e4];rfl)
  rwa [qg,qe]at this
end
theorem zf4 {H:Type}{parts:List (DataW H)}{d:DataW H}(h:Rows.uptoBulk (.agg parts)<=1048576)(hd:d∈parts):Rows.uptoBulk d<=1048576:=by
 have:=zjt parts d hd;simp only[Rows.uptoBulk]at h;omega
section
variable {H:Type}{enc:TypeId×Value->H}{w:World}
theorem Tryz.cellsInt:Tryz.prog.cellsOf 3=1:=by kernel_rfl
theorem Tryz.cellsStr:Tryz.prog.cellsOf 9=1:=by kernel_rfl
theorem Tryz.cellsTop:Tryz.prog.cellsOf 104=1:=by kernel_rfl
theorem Tryz.cellsPin:Tryz.prog.cellsOf 165=3:=by kernel_rfl
theorem Tryz.cellsRel:Tryz.prog.cellsOf 108=1:=by kernel_rfl
theorem Tryz.cellsSvc:Tryz.prog.cellsOf 73=4:=by kernel_rfl
theorem Tryz.cellsFlt:Tryz.prog.cellsOf 26=3:=by kernel_rfl
theorem Tryz.cellsPins:Tryz.prog.cellsOf 106=1:=by kernel_rfl
theorem Tryz.cellsRels:Tryz.prog.cellsOf 71=1:=by kernel_rfl
theorem zdn {n:Nat}{c:Value}{y:DataW H×List MemPlace}(h:xp enc Tryz.prog w 0 (fun _=>true) true n 3 [c]=some y):∃ k,c=.int .i64 k:=by
 obtain⟨k,hk,_⟩:=DataW.trod_int Tryz.underlying3 h;simp at hk;exact⟨k,hk⟩
theorem zy5 {fuel:Nat}{cs0:List Value}{x:DataW H×List MemPlace}(h:xp enc Tryz.prog w 0 (fun _=>true) true fuel 23 cs0=some x)(hN:Rows.uptoBulk x.1<=1048576) :
  ∃ (a:Option Addr) (len cap:Nat) (ts:List Int),cs0=[.slice a len cap]/\len=ts.length/\ts.length<=2000000/\IntsAt w a ts:=by
 obtain⟨a,len,cap,zs,h1,h2,h3,h4,h5,h6⟩:=ze1 (E:=fun cs (z:Int)=>cs=[.int .i64 z]) Tryz.underlying23 Tryz.cellsTop (by omega) (fun n cs y hy hl _=>by
  obtain⟨xs,m,_,_,_,hlen,hf⟩:=xj Tryz.underlying104 hy
  match cs,hl with
  |[c],_ =>
   match xs,hlen with
   |[y0],_ =>
    have h0:=hf 0 _ rfl;simp only[xh,xe,xf,Tryz.cellsInt]at h0;obtain⟨k,hk⟩:=zdn (c:=c) h0;exact⟨k,by rw[hk]⟩) h hN
 refine⟨a,len,cap,zs,h1,h2,h3,fun i s hi=>?_⟩;obtain⟨b,o,cs,e1,_,e3,e4⟩:=h6 i s hi;refine⟨b,o,e1,?_⟩;have:=e3 0 (.int .i64 s) (by rw[e4];rfl)
 rwa [qg,qe]at this
theorem zyz {fuel:Nat}{cs0:List Value}{x:DataW H×List MemPlace}(h:xp enc Tryz.prog w 0 (fun _=>true) true fuel 106 cs0=some x)(hN:Rows.uptoBulk x.1<=1048576) :
  ∃ (a:Option Addr) (len cap:Nat) (ps:List PinD),cs0=[.slice a len cap]/\PinSl w a len cap ps:=by
 obtain⟨a,len,cap,zs,h1,h2,h3,h4,h5,h6⟩:=ze1 (E:=fun cs (p:PinD)=>cs=[.int .i64 p.t,.int .i64 p.w,.int .i64 p.r]) Tryz.underlying106 Tryz.cellsPin (by omega) (fun n cs y hy hl _=>by
  obtain⟨xs,m,_,_,_,hlen,hf⟩:=xj Tryz.underlying165 hy
  match cs,hl with
  |[c0,c1,c2],_ =>
   match xs,hlen with
   |[y0,y1,y2],_ =>
    have h0:=hf 0 _ rfl;have h1:=hf 1 _ rfl;have h2:=hf 2 _ rfl;simp only[xh,xe,xf,Tryz.cellsInt]at h0 h1 h2;obtain⟨k0,hk0⟩:=zdn (c:=c0) h0;obtain⟨k1,hk1⟩:=zdn (c:=c1) h1;obtain⟨k2,hk2⟩:=zdn (c:=c2) h2;exact⟨⟨k0,k1,k2⟩,by rw[hk0,hk1,hk2]⟩) h hN
 refine⟨a,len,cap,zs,h1,h2,h3,h4,by omega,fun i p hi=>?_⟩;obtain⟨b,o,cs,e1,_,e3,e4⟩:=h6 i p hi;subst e4;exact⟨b,o,e1,e3 0 _ rfl,e3 1 _ rfl,e3 2 _ rfl⟩
theorem zy0 {fuel:Nat}{cs0:List Value}{x:DataW H×List MemPlace}(h:xp enc Tryz.prog w 0 (fun _=>true) true fuel 71 cs0=some x)(hN:Rows.uptoBulk x.1<=1048576) :
  ∃ (a:Option Addr) (len cap:Nat) (rs:List (List PinD)),cs0=[.slice a len cap]/\RelSl PinSl w a len cap rs:=by
 obtain⟨a,len,cap,zs,h1,h2,h3,h4,h5,h6⟩:=ze1 (E:=fun cs (ps:List PinD)=>∃ pa pl pc,cs=[.slice pa pl pc]/\PinSl w pa pl pc ps) Tryz.underlying71 Tryz.cellsRel (by omega) (fun n cs y hy hl hy2=>by
  obtain⟨xs,m,_,hx,_,hlen,hf⟩:=xj Tryz.underlying108 hy
  match cs,hl with
  |[c],_ =>
   match xs,hlen with
   |[y0],_ =>
    have h0:=hf 0 _ rfl;simp only[xh,xe,xf,Tryz.cellsPins]at h0;rw[hx]at hy2;obtain⟨pa,pl,pc,ps,hc,hps⟩:=zyz (cs0:=[c]) h0 (zf4 hy2 (by simp));exact⟨ps,pa,pl,pc,hc,hps⟩) h hN
 refine⟨a,len,cap,zs,h1,h2,h3,h4,by omega,fun i ps hi=>?_⟩;obtain⟨b,o,cs,e1,_,e3,pa,pl,pc,e4,e5⟩:=h6 i ps hi;subst e4;have:=e3 0 _ rfl;rw[qg,qe]at this;exact⟨b,o,pa,pl,pc,e1,this,e5⟩
theorem zy4 {fuel:Nat}{cs0:List Value}{x:DataW H×List MemPlace}(h:xp enc Tryz.prog w 0 (fun _=>true) true fuel 24 cs0=some x)(hN:Rows.uptoBulk x.1<=1048576) :
  ∃ (a:Option Addr) (len cap:Nat) (vs:List SvcD),cs0=[.slice a len cap]/\len=vs.length/\vs.length<=2000000/\SvcsAt (RelSl PinSl) w a vs:=by
 obtain⟨a,len,cap,zs,h1,h2,h3,h4,h5,h6⟩:=ze1 (E:=fun cs (v:SvcD)=>∃ ra rl rc,cs=[.int .i64 v.size,.int .i64 v.now,.int .i64 v.want,.slice ra rl rc]/\RelSl PinSl w ra rl rc v.rels) Tryz.underlying24 Tryz.cellsSvc (by omega) (fun n cs y hy hl hy2=>by
  obtain⟨xs,m,_,hx,_,hlen,hf⟩:=xj Tryz.underlying73 hy
  match cs,hl with
  |[c0,c1,c2,c3],_ =>
   match xs,hlen with
   |[y0,y1,y2,y3],_ =>
    have h0:=hf 0 _ rfl;have h1:=hf 1 _ rfl;have h2:=hf 2 _ rfl;have h3:=hf 3 _ rfl;simp only[xh,xe,xf,Tryz.cellsInt,Tryz.cellsRels]at h0 h1 h2 h3;obtain⟨k0,hk0⟩:=zdn (c:=c0) h0;obtain⟨k1,hk1⟩:=zdn (c:=c1) h1;obtain⟨k2,hk2⟩:=zdn (c:=c2) h2;rw[hx]at hy2;obtain⟨ra,rl,rc,rs,hc,hrs⟩:=zy0 (cs0:=[c3]) h3 (zf4 hy2 (by simp));simp at hc;exact⟨⟨k0,k1,k2,rs⟩,ra,rl,rc,by rw[hk0,hk1,hk2,hc],hrs⟩) h hN
 refine⟨a,len,cap,zs,h1,h2,h3,fun i v hi=>?_⟩;obtain⟨b,o,cs,e1,_,e3,ra,rl,rc,e4,e5⟩:=h6 i v hi;subst e4;exact⟨b,o,ra,rl,rc,e1,e3 0 _ rfl,e3 1 _ rfl,e3 2 _ rfl,e3 3 _ rfl,e5⟩
end
end
section
open Go.RowKit Go.ChangeShapes Go.WideShapes
section
variable {H:Type}{enc:TypeId×Value->H}{w:World}
theorem Tryz.cellsMv:Tryz.prog.cellsOf 62=2:=by kernel_rfl
theorem Tryz.cellsStrs2:Tryz.prog.cellsOf 22=1:=by kernel_rfl
theorem Tryz.cellsTops2:Tryz.prog.cellsOf 23=1:=by kernel_rfl
theorem Tryz.cellsSvcs2:Tryz.prog.cellsOf 24=1:=by kernel_rfl
theorem zyy {fuel:Nat}{cs0:List Value}{x:DataW H×List MemPlace}(h:xp enc Tryz.prog w 0 (fun _=>true) true fuel 27 cs0=some x)(hN:Rows.uptoBulk x.1<=1048576) :
  ∃ (a:Option Addr) (len cap:Nat) (ms:List (Int×Int)),cs0=[.slice a len cap]/\len=ms.length/\ms.length<=2000000/\MvsAt w a ms:=by
 obtain⟨a,len,cap,zs,h1,h2,h3,h4,h5,h6⟩:=ze1 (E:=fun cs (p:Int×Int)=>cs=[.int .i64 p.1,.int .i64 p.2]) Tryz.underlying27 Tryz.cellsMv (by omega) (fun n cs y hy hl _=>by
  obtain⟨xs,m,_,_,_,hlen,hf⟩:=xj Tryz.underlying62 hy
  match cs,hl with
  |[c0,c1],_ =>
   match xs,hlen with
   |[y0,y1],_ =>
    have h0:=hf 0 _ rfl;have h1:=hf 1 _ rfl;simp only[xh,xe,xf,Tryz.cellsInt]at h0 h1;obtain⟨k0,hk0⟩:=zdn (c:=c0) h0;obtain⟨k1,hk1⟩:=zdn (c:=c1) h1;exact⟨(k0,k1),by rw[hk0,hk1]⟩) h hN
 refine⟨a,len,cap,zs,h1,h2,h3,fun i p hi=>?_⟩;obtain⟨b,o,cs,e1,_,e3,e4⟩:=h6 i p hi;subst e4;exact⟨b,o,e1,e3 0 _ rfl,e3 1 _ rfl⟩
end
set_option maxRecDepth 100000 in
theorem zyw {H:Type}{enc:TypeId×Value->H}{W:World}{base:Nat}{v:Value}{d:DataW H}{p:List MemPlace}(hv:Value.okWide Tryz.prog W .any base 26 v)(h:qi enc Tryz.prog W 0 (fun _=>true) true 26 v d p)(hN:Rows.uptoBulk d<=1048576) :
  ∃ (f:zac) (sa ta va:Option Addr) (sl sc tl tc vl vc:Nat),v=.agg #[.slice sa sl sc,.slice ta tl tc,.slice va vl vc]/\FleetAt W sa sl sc ta tl tc va vl vc f:=by
 obtain⟨cs,rfl,hcs⟩:=okWide_struct Tryz.underlying26 hv;obtain⟨fuel,hf⟩:=h;obtain⟨xs,m,_,hx,hl,hlen,hfs⟩:=xj Tryz.underlying26 hf;simp only[Value.cells]at hf hl hfs;rw[Tryz.cellsFlt]at hcs;obtain⟨l⟩:=cs;simp at hcs
 match l,hcs with
 |[c0,c1,c2],_ =>
  match xs,hlen with
  |[y0,y1,y2],_ =>
   have h0:=hfs 0 _ rfl;have h1:=hfs 1 _ rfl;have h2:=hfs 2 _ rfl;simp only[xh,xe,xf,Tryz.cellsStrs2,Tryz.cellsTops2,Tryz.cellsSvcs2]at h0 h1 h2;have hx1:d=.agg [y0.1,y1.1,y2.1]:=by simpa using congrArg Prod.fst hx
   rw[hx1]at hN;obtain⟨sa,sl,sc,ss,e0,a1,a2,a3,a4⟩:=zy3 (cs0:=[c0]) Tryz.underlying22 Tryz.underlying9 Tryz.cellsStr h0 (zf4 hN (by simp));obtain⟨ta,tl,tc,ts,e1,b1,b2,b3⟩:=zy5 (cs0:=[c1]) h1 (zf4 hN (by simp));obtain⟨va,vl,vc,vs,e2,g1,g2,g3⟩:=zy4 (cs0:=[c2]) h2 (zf4 hN (by simp));simp at e0 e1 e2;subst e0 e1 e2;exact⟨⟨ss,ts,vs⟩,sa,ta,va,sl,sc,tl,tc,vl,vc,rfl,⟨a1,a2,a3,a4,b1,b2,b3,g1,g2,g3⟩⟩
theorem zyx {H:Type}{enc:TypeId×Value->H}{W:World}{base:Nat}{v:Value}{d:DataW H}{p:List MemPlace}(hv:Value.okWide Tryz.prog W .any base 27 v)(h:qi enc Tryz.prog W 0 (fun _=>true) true 27 v d p)(hN:Rows.uptoBulk d<=1048576) :
  ∃ (ms:List (Int×Int)) (ma:Option Addr) (mc:Nat),v=.slice ma ms.length mc/\ms.length<=2000000/\MvsAt W ma ms:=by
 obtain⟨a,len,cap,rfl⟩:=okWide_slice Tryz.underlying27 hv;obtain⟨fuel,hf⟩:=h;obtain⟨a',len',cap',ms,e0,e1,e2,e3⟩:=zyy hf hN;simp[Value.cells]at e0;obtain⟨rfl,rfl,rfl⟩:=e0;subst e1;exact⟨ms,a,cap,rfl,e2,e3⟩
end
end Go.Proofs.YtkkekopomiehlabGreatDoor
