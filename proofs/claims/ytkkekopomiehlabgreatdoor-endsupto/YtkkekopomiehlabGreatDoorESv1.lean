import Derived.Test.YtkkekopomiehlabGreatDoorEBs4
import Derived.Test.YtkkekopomiehlabGreatDoorRows
import Derived.Deep.Slices
import Derived.Deep.Strs
import Derived.Carry
import Derived.JoinedCond
set_option linter.unusedVariables false
set_option linter.unusedSimpArgs false
set_option maxHeartbeats 40000000
set_option maxRecDepth 4000
open List renaming getElem_cons_zero->xe,getElem_cons_succ->xf,getElem_toArray->xg,getElem?_eq_some_iff->xh,not_mem_nil->xm,mem_cons->xp,getElem?_of_mem->xu,range->xz,mem_of_getElem?->qd
open Go.DataW renaming trod_struct->xj,trod->xo,Trod->xv,trod_string->qg
open Go.World renaming holding->xq,cells?_some->xy
open Nat renaming add_zero->qe,zero_le->qh,mul_one->qi
open Int renaming toNat_natCast->qf
open Option.some renaming inj->qj
namespace Go.Proofs.YtkkekopomiehlabGreatDoor
section
open Go.RowKit
variable {w0 w W:World}{L:Nat->Nat}{gb r:Nat}{f:zac}{ms:List (Int×Int)}{tale:Bool}{N:Int}
theorem zlo (h:Std w0 gb r f ms tale N W):Below w0.heap.size w0 W:=by
 obtain⟨b,L,⟨sa,ta,va,ma,sl,sc,tl,tc,vl,vc,mc,nv,h⟩,_⟩:=h;exact h.bel
theorem StsAt.keep {ad:Option Addr}{xs:List StD}(h:StsAt w ad xs)(hb:Below w.heap.size w W):StsAt W ad xs:=fun i x hi=>by
 obtain⟨b,o,e,h0,h1,h2,h3,h4⟩:=h i x hi;exact⟨b,o,e,zab hb h0,zab hb h1,zab hb h2,zab hb h3,zab hb h4⟩
def StB (xs:List StD):Prop:=∀ x∈xs,(-9223372036854775808<=x.a/\x.a<=9223372036854775807)/\(-9223372036854775808<=x.b/\x.b<=9223372036854775807)/\(-9223372036854775808<=x.c/\x.c<=9223372036854775807)/\x.s.size<=maxLen
theorem zjn (hS:Sfe f ms)(h:BookE w0 W L gb r (bok0 f ms tale)):Std w0 gb r f ms tale 0 W:=⟨_,L,h,zus hS tale,rfl,rfl,rfl⟩
theorem yad1 {j:Nat}{k a b:Int}(hj:j<5)(c:Int)(hc:-9223372036854775808<=c/\c<=9223372036854775807):∀ v∈(tlF j k a b).vs,∀ ps∈v.rels,∀ p∈ps,numB p.w (tlF j k a b).ss.length=true->∀ W,Calls Tryz.prog 123 #[.string (schO (tlF j k a b).ss p.w),.int .i64 c] W fun e W'=>zbz (schO (tlF j k a b).ss p.w) W e W':=by
 have hw:∀ v∈(tlF j k a b).vs,∀ ps∈v.rels,∀ p∈ps,p.w=-1\/p.w=0\/p.w=1:=by
  intro v hv ps hps p hp;have:j=0\/j=1\/j=2\/j=3\/j=4:=by omega
  rcases this with rfl|rfl|rfl|rfl|rfl
  all_goals
   simp only[tlF,xp,xm,or_false,svW,svR,svR3,svO]at hv
   first
    |(rcases hv with rfl|rfl<;>simp only[xp,xm,or_false]at hps<;>first|(rcases hps with rfl|rfl<;>simp only[xp,xm,or_false]at hp<;>subst hp<;>simp)|(rcases hps with rfl|rfl|rfl<;>simp only[xp,xm,or_false]at hp<;>subst hp<;>simp))
    |(subst hv;simp only[xp,xm,or_false]at hps;rcases hps with rfl|rfl|rfl<;>simp only[xp,xm,or_false]at hp<;>subst hp<;>simp)
 intro v hv ps hps p hp hn W;have h0:=zyp hn;have hjj:j=0\/j=1\/j=2\/j=3\/j=4:=by omega
 rcases hw v hv ps hps p hp with q|q|q
 ·omega
 ·rw[q];rcases hjj with rfl|rfl|rfl|rfl|rfl
  iterate 3
   ·exact zim c W
  ·exact yabz c hc W
  ·exact zim c W
 ·rw[q];rcases hjj with rfl|rfl|rfl|rfl|rfl
  ·exact yab3 c W
  ·exact yab0 c W
  ·exact yab1 c W
  ·exact yab4 c hc W
  ·exact yab2 c W
theorem yaal {ad:Option Addr}{xs:List StD}{cp:Nat}(hT:Tab w0)(hst:StsAt w0 ad xs)(hxl:xs.length<=2000000)(hxb:StB xs)(hz:w0.heap.size<=gb)(h:Std w0 gb r f ms false 0 w):Calls Tryz.prog 11 #[.pointer (some ⟨gb,0,none⟩),.slice ad xs.length cp] w fun e W=>e=.returned (.bool true)/\Std w0 gb r f ms false xs.length W:=by
 refine zqu (fun k W=>Std w0 gb r f ms false (k:Int) W) hxl (fun k W hk=>hst.keep (zlo hk)) (fun k x W hx hk=>?_) h;have hkl:=(xh.1 hx).1;obtain⟨b1,b2,b3,b4⟩:=hxb x (qd hx);have:=zr2 b1 b2 (by omega) hz hk (fun s v i W' hv hi hs=>yaer hT s v i W' hv hi hs) (fun W' h5 hs=>yaar h5 b1 b2 b4 hs);rw[show ((k+1:Nat):Int)=(k:Int)+1 by omega];exact this
theorem yaam {ad:Option Addr}{xs:List StD}{cp j:Nat}{k a b:Int}(hj:j<5)(hk:1<=k/\k<=6)(hf:f=tlF j k a b)(hT:Tab w0)(hst:StsAt w0 ad xs)(hxl:xs.length<=2000000)(hxb:StB xs)(hz:w0.heap.size<=gb)(h:Std w0 gb r f ms true 0 w):Calls Tryz.prog 11 #[.pointer (some ⟨gb,0,none⟩),.slice ad xs.length cp] w fun e W=>e=.returned (.bool true)/\Std w0 gb r f ms true xs.length W:=by
 have htl:Tlf f:=by rw[hf];exact tl_f hk
 refine zqu (fun k W=>Std w0 gb r f ms true (k:Int) W) hxl (fun k W hk=>hst.keep (zlo hk)) (fun k x W hx hk=>?_) h;have hkl:=(xh.1 hx).1;obtain⟨b1,b2,b3,b4⟩:=hxb x (qd hx);have:=zr2 b1 b2 (by omega) hz hk (fun s v i W' hv hi hs=>yaes hT htl (by omega) s v i W' hv hi hs) (fun W' h5 hs'=>yaas h5 b1 b2 b3 htl (by omega) hz (by rw[hf];exact yad1 hj x.c b3) hs');rw[show ((k+1:Nat):Int)=(k:Int)+1 by omega];exact this
end
section
open Go.RowKit
theorem Inv.done {N:Int}{b:zav}(h:Inv N b)(ho:zaj b.P.c=true):b.P.c.st=(if b.ab then 4 else 3)/\∀ (s:Nat) v,b.f.vs[s]?=some v->∀ i:Nat,(i:Int)<v.size->hasB b.P.vs s i=true/\(insG b.P.vs s i).r=zfv b (!b.ab) s v:=by
 have hw:=zid h.pi.sh ho;have hs:=h.pi.sh.st;have h34:b.P.c.st=3\/b.P.c.st=4:=by unfold zaj at ho;exact of_decide_eq_true ho
 have hab:=h.ab;unfold bckP at hab;have hn:(zb8 b.f b.ms).n=b.ms.length:=rfl;have key:∀ (s:Nat) v,b.f.vs[s]?=some v->∀ i:Nat,(i:Int)<v.size->hasB b.P.vs s i=true/\(insG b.P.vs s i).r=hasI v.now b.ms s b.P.c.pos.toNat:=fun s v hv i hi=>by
  obtain⟨V,y,a,ps,q⟩:=h.inst hv hi;refine⟨q.hb,?_⟩;rcases h.pi.nt.i1 s i q.hb with e|⟨e,_⟩
  ·rw[e];show hasI (nowI b.f (s:Int).toNat) b.ms s _=_;rw[qf,zib hv]
  ·rw[hw]at e;cases e
 cases hb:b.ab with
 |true =>
  have h4:b.P.c.st=4:=by have:=hab.1 hb;omega
  have hp:b.P.c.pos=0:=by omega
  rw[hp]at key;exact⟨h4,key⟩
 |false =>
  have h3:b.P.c.st=3:=by
   rcases h34 with q|q
   ·exact q
   ·have:=hab.2 (.inr q);rw[hb]at this;cases this
  have hp:b.P.c.pos=b.ms.length:=by omega
  rw[hp,qf]at key;exact⟨h3,key⟩
theorem zqz {X:WayD}{P:zad}(hs:Shp X P.vs P.c)(ho:zaj P.c=true):(quiP P).c=P.c:=by
 have e:=zhz 80 (zid hs ho);show actC (dlvN 80 P).c ((dlvN 80 P).ti+1)=_;rw[e];unfold actC;rw[ho];simp
theorem zqy:∀ (n:Nat) (P:zad),quiN (n+1) P=quiP (quiN n P)
 |0,P=>rfl
 |n+1,P=>by
  show quiN (n+1) (quiP P)=quiP (quiN n (quiP P));exact zqy n (quiP P)
variable {w0 w W:World}{L:Nat->Nat}{gb r:Nat}{f:zac}{ms:List (Int×Int)}{tale:Bool}{N:Int}
def Rnd (w0:World)(gb r:Nat)(f:zac)(ms:List (Int×Int))(tale:Bool)(N:Int)(k:Nat)(W:World):Prop:=∃ b L,BookE w0 W L gb r b/\Inv (N+k) b/\b.f=f/\b.ms=ms/\b.tale=tale/\(zaj b.P.c=true\/∃ P0,PInv (zb8 f ms) (Wrt f) P0/\Ext P0/\P0.c.pa=false/\b.P=quiN k P0)
def Ovr (w0:World)(gb r:Nat)(f:zac)(ms:List (Int×Int))(tale:Bool)(N:Int)(W:World):Prop:=∃ b L,BookE w0 W L gb r b/\Inv N b/\b.f=f/\b.ms=ms/\b.tale=tale/\zaj b.P.c=true
theorem Ovr.std (h:Ovr w0 gb r f ms tale N W):Std w0 gb r f ms tale N W:=by
 obtain⟨b,L,h1,h2,h3,h4,h5,_⟩:=h;exact⟨b,L,h1,h2,h3,h4,h5⟩
theorem Ovr.keep (h:Ovr w0 gb r f ms tale N w)(hb:Below w.heap.size w W):Ovr w0 gb r f ms tale N W:=by
 obtain⟨b,L,h1,h2⟩:=h;exact⟨b,L,h1.keep hb,h2⟩
theorem Ovr.settled (h:Ovr w0 gb r f ms tale N w):Calls Tryz.prog 30 #[.pointer (some ⟨gb,0,none⟩)] w fun e W=>e=.returned (.bool true)/\Ovr w0 gb r f ms tale N W:=by
 have hs:=h;obtain⟨b,L,hB,hI,rfl,rfl,rfl,ho⟩:=h;have hO:=zb3 hI.sf.ob;have hv3:=hO.vs3;have hml:=hI.sf.l200;obtain⟨h1,h2⟩:=hI.done ho;refine(yace (by omega) (by omega) (fun v hv=>?_) h1 h2 hB).mono fun e W q=>⟨q.1,hs.keep q.2⟩;obtain⟨s,hs'⟩:=xu hv;have:=(zg1 hO hs').2;omega
theorem Ovr.quiet (hN:N<=3000000000)(hz:w0.heap.size<=gb)(h:Ovr w0 gb r f ms tale N w):Calls Tryz.prog 29 #[.pointer (some ⟨gb,0,none⟩)] w fun e W=>e=.returned (.bool true)/\Ovr w0 gb r f ms tale (N+1) W:=by
 obtain⟨b,L,hB,hI,rfl,rfl,rfl,ho⟩:=h;have hti:=hI.bn.ti;have hbt:0<=b.ti/\b.ti<=3000000000:=by rw[hI.ti];omega
 refine(zk7 hI.pi hI.ex hI.bn hN hbt hz hB).mono ?_;rintro e W ⟨rfl,L',hB'⟩;exact⟨rfl,_,L',hB',hI.qui,rfl,rfl,rfl,by show zaj (quiP b.P).c=true;rw[zqz hI.pi.sh ho];exact ho⟩
theorem Ovr.abort (h:Ovr w0 gb r f ms tale N w):Calls Tryz.prog 31 #[.pointer (some ⟨r,0,none⟩)] w fun e W=>e=.returned (.int .i64 17)/\Ovr w0 gb r f ms tale N W:=by
 obtain⟨b,L,hB,hI,rfl,rfl,rfl,ho⟩:=h;have h4:=hI.pi.sh.p0;have h5:=hI.pi.sh.pn;have h6:(zb8 b.f b.ms).n=b.ms.length:=rfl;have h7:=hI.sf.l200;have e1:abtE b.P=17:=by unfold abtE;rw[if_pos ho]
 have e2:abtP b.P=b.P:=by unfold abtP;rw[if_pos ho]
 refine(zl1 (by omega) hB.x.2.2.2).mono ?_;rintro e W ⟨rfl,ht⟩;obtain⟨L',hB'⟩:=hB.turn ht;rw[e1];rw[e2]at hB';exact⟨rfl,_,L',hB',hI,rfl,rfl,rfl,ho⟩
theorem Ovr.crash (hN:N<=3000000000)(h:Ovr w0 gb r f ms tale N w):Calls Tryz.prog 32 #[.pointer (some ⟨r,0,none⟩)] w fun e W=>e=.returned (.tuple #[])/\Ovr w0 gb r f ms tale N W:=by
 obtain⟨b,L,hB,hI,rfl,rfl,rfl,ho⟩:=h;have hti:=hI.bn.ti;have hr6:=hI.ex.r6;have hr0:=hI.ex.r0;have e2:crsP b.P=b.P:=by unfold crsP crsC;rw[if_pos ho]
 refine(zq1 (by omega) hB.x.2.2.2).mono ?_;rintro e W ⟨rfl,ht⟩;obtain⟨L',hB'⟩:=hB.turn ht;rw[e2]at hB';exact⟨rfl,_,L',hB',hI,rfl,rfl,rfl,ho⟩
theorem Std.c5 (h:Std w0 gb r f ms tale N W):W.cell? ⟨gb,5,none⟩=some (.pointer (some ⟨r,0,none⟩)):=by
 obtain⟨b,L,hB,_⟩:=h;exact hB.x.1
theorem Std.pause (h:Std w0 gb r f ms tale N w):Calls Tryz.prog 28 #[.pointer (some ⟨r,0,none⟩),.bool false] w fun e W=>(∃ n,e=.returned (.int .i64 n))/\Rnd w0 gb r f ms tale N 0 W:=by
 obtain⟨b,L,hB,hI,rfl,rfl,rfl⟩:=h;refine(zq4 false hB.x.2.2.2).mono ?_;rintro e W ⟨he,ht⟩;obtain⟨L',hB'⟩:=hB.turn ht;refine⟨he,_,L',hB',by have:=hI.pau false;simpa using this,rfl,rfl,rfl,?_⟩;have hi:=(hI.pau false);cases ho:zaj b.P.c with
 |true=>left;simp only[if_true];exact ho
 |false =>
  rw[ho]at hi;simp only[Bool.false_eq_true,if_false]at hi ⊢;exact .inr ⟨_,hi.pi,hi.ex,rfl,rfl⟩
theorem Rnd.c3 {k:Nat}(h:Rnd w0 gb r f ms tale N k W):∃ ma mc,W.cell? ⟨gb,3,none⟩=some (.slice ma ms.length mc):=by
 obtain⟨b,L,hB,hI,rfl,rfl,rfl,_⟩:=h;obtain⟨va,ma,vc,mc,hV⟩:=hB.v;exact⟨ma,mc,(hV W (Below.refl _ _)).1.x3⟩
theorem Rnd.quiet {k:Nat}(hN:N+k<=3000000000)(hz:w0.heap.size<=gb)(h:Rnd w0 gb r f ms tale N k w):Calls Tryz.prog 29 #[.pointer (some ⟨gb,0,none⟩)] w fun e W=>e=.returned (.bool true)/\Rnd w0 gb r f ms tale N (k+1) W:=by
 obtain⟨b,L,hB,hI,rfl,rfl,rfl,ho⟩:=h;have hti:=hI.bn.ti;have hbt:0<=b.ti/\b.ti<=3000000000:=by rw[hI.ti];omega
 refine(zk7 hI.pi hI.ex hI.bn hN hbt hz hB).mono ?_;rintro e W ⟨rfl,L',hB'⟩;refine⟨rfl,_,L',hB',by have:=hI.qui;rw[show N+((k+1:Nat):Int)=N+(k:Int)+1 by omega];exact this,rfl,rfl,rfl,?_⟩;rcases ho with ho|⟨P0,h1,h2,h3,h4⟩
 ·left;show zaj (quiP b.P).c=true;rw[zqz hI.pi.sh ho];exact ho
 ·right;exact⟨P0,h1,h2,h3,by show quiP b.P=_;rw[h4,zqy]⟩
theorem Rnd.over (h:Rnd w0 gb r f ms tale N ((ms.length+1)*9) W):Ovr w0 gb r f ms tale (N+(((ms.length+1)*9:Nat):Int)) W:=by
 obtain⟨b,L,hB,hI,rfl,rfl,rfl,ho⟩:=h;refine⟨b,L,hB,hI,rfl,rfl,rfl,?_⟩;rcases ho with ho|⟨P0,h1,h2,h3,h4⟩
 ·exact ho
 ·rw[h4,Nat.mul_comm];exact(yaaw h1 h2 h3).2
theorem zoo {sv:Value}(hml:ms.length<=2000000)(hN:N<=2000000)(hz:w0.heap.size<=gb)(c1:Calls Tryz.prog 11 #[.pointer (some ⟨gb,0,none⟩),sv] w fun e W=>e=.returned (.bool true)/\Std w0 gb r f ms tale N W):Calls Tryz.prog 14 #[.pointer (some ⟨gb,0,none⟩),sv] w fun e W=>e=.returned (.bool true)/\Below w0.heap.size w0 W:=by
 obtain⟨M,hM⟩:∃ M,M=N+(((ms.length+1)*9:Nat):Int):=⟨_,rfl⟩;refine zwr (r:=r) (nm:=ms.length) (Std w0 gb r f ms tale N) (Rnd w0 gb r f ms tale N) (Ovr w0 gb r f ms tale M) (Ovr w0 gb r f ms tale M) (Ovr w0 gb r f ms tale M) (Ovr w0 gb r f ms tale (M+1)) (fun W=>Below w0.heap.size w0 W) hml c1 (fun W h=>h.c5) (fun W h=>h.pause) (fun k W h=>h.c3) (fun k W hk h=>h.quiet (by omega) hz) (fun W h=>?_) (fun W h=>h.std.c5) (fun W h=>h.abort) (fun W h=>h.std.c5) (fun W h=>h.crash (by omega)) (fun W h=>(h.quiet (by omega) hz).mono fun e W' q=>⟨⟨_,q.1⟩,q.2⟩) (fun W h=>h.settled.mono fun e W' q=>⟨q.1,zlo q.2.std⟩);rw[hM];exact h.over.settled
end
section
open Go.RowKit
theorem zwv (c keep n m:Int)(hc:-9223372036854775808<=c/\c<=9223372036854775807)(hk:-9223372036854775808<=keep/\keep<=9223372036854775807)(hn:-9223372036854775808<=n/\n<=9223372036854775807)(hm:-9223372036854775808<=m/\m<=9223372036854775807)(f:zac)(sa ta va:Option Addr)(sl sc tl tc vl vc:Nat)(ms:List (Int×Int))(ma:Option Addr)(mc:Nat)(xs:List StD)(ad:Option Addr)(cp:Nat)(w:World)(hf:FleetAt w sa sl sc ta tl tc va vl vc f)(hms:MvsAt w ma ms)(hml:ms.length<=2000000)(hst:StsAt w ad xs)(hxl:xs.length<=2000000)(hxb:StB xs)(hT:Tab w) :
  Calls Tryz.prog 6 #[.int .i64 c,.int .i64 keep,.int .i64 n,.int .i64 m,.agg #[.slice sa sl sc,.slice ta tl tc,.slice va vl vc],.slice ma ms.length mc,.slice ad xs.length cp] w fun e W=>e=.returned (.bool true)/\Below w.heap.size w W:=by
 have B0:=zaa (bel1 w (.cells #[.slice sa sl sc,.slice ta tl tc,.slice va vl vc] 26));have F0:=box3 w (.slice sa sl sc) (.slice ta tl tc) (.slice va vl vc) 26;obtain⟨j,k,a,b,ft,hj,hkk,hft,hSf,c1⟩:=zy6 c keep n m hc hk hn hm (w.alloc (.cells #[.slice sa sl sc,.slice ta tl tc,.slice va vl vc] 26));have htl:(tlM j).length<=2000000:=by have:=hSf.l200;omega
 have c2:=fun (w0 W:World) (gb r:Nat) (hb:Below w.heap.size w w0) (hz:w0.heap.size<=gb) (h:Std w0 gb r ft (tlM j) true 0 W)=>zoo htl (by omega) hz (yaam (cp:=cp) hj hkk hft (hT.keep hb) (hst.keep hb) hxl hxb hz h);have c5:=fun (w0 W:World) (gb r:Nat) (hb:Below w.heap.size w w0) (hz:w0.heap.size<=gb) (h:Std w0 gb r f ms false 0 W)=>zoo hml (by omega) hz (yaal (cp:=cp) (hT.keep hb) (hst.keep hb) hxl hxb hz h);by_cases hSF:Sfe f ms
 ·have c4:=fun (W:World) (h:Below w.heap.size w W)=>zug hSF (zmv f sa ta va sl sc tl tc vl vc ms ma mc W (hf.keep h) (hms.keep h) hml);have HSY:=zaa hSF;have HSF:=zaa hSf;clear hc hk hn hm hf hms hst hxb hT hSf hft hkk hj htl;generalize tlM j=M at *;obtain⟨q,hq⟩:∃ q,q=ms.length:=⟨_,rfl⟩;obtain⟨p,hp⟩:∃ p,p=xs.length:=⟨_,rfl⟩;rw[<- hq]at c4 ⊢;rw[<- hp]at c2 c5 ⊢;clear hq hp hml hxl hSF
  go_enter Tryz.func6,Tryz.ntmps6
  go_wp2_with (first
   |(go_at_call 10;refine c1.mono ?_;rintro e w1 hP;obtain⟨gb,r,L,w0,rfl,hB,hz,hb0⟩:=hP;have HBX:=zaa hb0;have HB0:=zaa (thn3 B0.out hb0);have HZ:=zaa hz;have S1:=zaa (zjn HSF.out hB);clear hB hz hb0)
   |(go_at_call 14;have hq:=S4;refine(c5 w0' _ gb' r' HB0'.out HZ'.out S4.out).mono ?_;rintro e w5 ⟨rfl,hb5⟩)
   |(go_at_call 14;refine(c2 w0 _ gb r HB0.out HZ.out S1.out).mono ?_;rintro e w3 ⟨rfl,hb3⟩;have X3:=zaa (HBX.out.trans (hb3.mono HBX.out.size));have B3:=zaa (thn3 B0.out X3.out);have f3:=zaq X3.out F0)
   |(go_at_call 13;refine(c4 _ B3.out).mono ?_;rintro e w4 ⟨gb',r',L',w0',rfl,hB4,hz4,hb4⟩;have HB0':=zaa (thn3 B3.out hb4);have HZ':=zaa hz4;have S4:=zaa (zjn HSY.out hB4);clear hB4 hz4 hb4))
  go_ret;exact⟨rfl,HB0'.out.trans (hb5.mono HB0'.out.size)⟩
 ·have c4:=fun (W:World) (h:Below w.heap.size w W)=>zuf hSF (zmv f sa ta va sl sc tl tc vl vc ms ma mc W (hf.keep h) (hms.keep h) hml);have HSF:=zaa hSf;clear hc hk hn hm hf hms hst hxb hT hSf hft hkk hj htl;generalize tlM j=M at *;obtain⟨q,hq⟩:∃ q,q=ms.length:=⟨_,rfl⟩;obtain⟨p,hp⟩:∃ p,p=xs.length:=⟨_,rfl⟩;rw[<- hq]at c4 ⊢;rw[<- hp]at c2 ⊢;clear hq hp hml hxl hSF c5
  go_enter Tryz.func6,Tryz.ntmps6
  go_wp2_with (first
   |(go_at_call 10;refine c1.mono ?_;rintro e w1 hP;obtain⟨gb,r,L,w0,rfl,hB,hz,hb0⟩:=hP;have HBX:=zaa hb0;have HB0:=zaa (thn3 B0.out hb0);have HZ:=zaa hz;have S1:=zaa (zjn HSF.out hB);clear hB hz hb0)
   |(go_at_call 14;refine(c2 w0 _ gb r HB0.out HZ.out S1.out).mono ?_;rintro e w3 ⟨rfl,hb3⟩;have X3:=zaa (HBX.out.trans (hb3.mono HBX.out.size));have B3:=zaa (thn3 B0.out X3.out);have f3:=zaq X3.out F0)
   |(go_at_call 13;refine(c4 _ B3.out).mono ?_;rintro e w4 ⟨rfl,hb4⟩))
  go_ret;exact⟨rfl,thn3 B3.out hb4⟩
end
section
open Go.RowKit Go.ChangeShapes Go.WideShapes
theorem zu1 {H:Type}(d:DataW H):1<=Rows.uptoBulk d:=by
 cases d with
 |lit l=>cases l<;>simp[Rows.uptoBulk]
 |_=>simp[Rows.uptoBulk]
theorem zjt {H:Type}:∀ (l:List (DataW H)) (d:DataW H),d∈l->Rows.uptoBulk d<=Rows.uptoBulkAll l
 |e::l,d,h=>by
  rw[Rows.uptoBulkAll];rcases xp.1 h with rfl|h
  ·omega
  ·have:=zjt l d h;omega
theorem zjs {H:Type}:∀ (l:List (DataW H)),l.length<=Rows.uptoBulkAll l
 |[]=>qh _
 |d::l=>by have:=zu1 d;have:=zjs l;rw[Rows.uptoBulkAll,List.length_cons];omega
theorem zpe {α:Type}{p:Nat->α->Prop}:∀ (n:Nat),(∀ i,i<n->∃ z,p i z)->∃ zs:List α,zs.length=n/\∀ i z,zs[i]?=some z->p i z
 |0,_=>⟨[],rfl,fun i z h=>by simp at h⟩
 |n+1,h=>by
  obtain⟨zs,h1,h2⟩:=zpe n (fun i hi=>h i (by omega));obtain⟨z,hz⟩:=h n (by omega);refine⟨zs++[z],by simp[h1],fun i u hi=>?_⟩;by_cases hl:i<zs.length
  ·rw[List.getElem?_append_left hl]at hi;exact h2 i u hi
  ·have:=(xh.1 hi).1;rw[List.length_append,List.length_singleton]at this;have hie:i=n:=by omega
   subst hie;rw[List.getElem?_append_right (by omega),h1,Nat.sub_self]at hi;simp at hi;rw[<- hi];exact hz
section
variable {H:Type}{enc:TypeId×Value->H}{P:Program}{w:World}
theorem zua (b o m j:Nat):((⟨b,o,none⟩:Addr).add m).add j=⟨b,o+m+j,none⟩:=by
 unfold Addr.add;by_cases h1:m=0
 ·subst h1;by_cases h2:j=0
  ·subst h2;rfl
  ·simp[h2]
 ·by_cases h2:j=0
  ·subst h2;simp[h1]
  ·simp[h1,h2]
theorem ze1 {α:Type}{E:List Value->α->Prop}{t e:TypeId}{k fuel:Nat}{cs0:List Value}{x:DataW H×List MemPlace}(ht:P.underlying t=some (.slice e))(hk:P.cellsOf e=k)(hk0:0<k)
  (hE:∀ (n:Nat) (cs:List Value) (y:DataW H×List MemPlace),xo enc P w 0 (fun _=>true) true n e cs=some y->cs.length=k->Rows.uptoBulk y.1<=1048576->∃ z,E cs z)
  (h:xo enc P w 0 (fun _=>true) true fuel t cs0=some x) (hN:Rows.uptoBulk x.1<=1048576) :
  ∃ (a:Option Addr) (len cap:Nat) (zs:List α),cs0=[.slice a len cap]/\len=zs.length/\zs.length<=2000000/\len<=cap/\cap<=9000000 /\
   ∀ (i:Nat) (z:α),zs[i]?=some z->∃ b o cs,a=some ⟨b,o,none⟩/\cs.length=k/\(∀ (j:Nat) (v:Value),cs[j]?=some v->w.cell? ⟨b,o+i*k+j,none⟩=some v)/\E cs z:=by
 rcases Go.Deep.open_slice ht h with⟨rfl,rfl⟩|⟨a,len,cap,m,n,D,Pl,rfl,hb,hl,hm,hmm,rfl,hx⟩
 ·exact⟨none,0,0,[],rfl,rfl,qh _,Nat.le_refl _,qh _,fun i z hi=>by simp at hi⟩
 ·simp only[if_true]at hmm;subst hmm;rw[hk]at hx;have hbul:Rows.uptoBulkAll ((xz len).map D)+Rows.uptoBulkAll ((xz (m-len)).map fun j=>D (len+j))+1<=1048576:=by
   have:=hN;simp only[Rows.uptoBulk]at this;exact this
  have hl1:=zjs ((xz len).map D);have hl2:=zjs ((xz (m-len)).map fun j=>D (len+j));rw[List.length_map,List.length_range]at hl1 hl2;obtain⟨zs,hz1,hz2⟩:=zpe (α:=α) (p:=fun i z=>∃ cs,w.cells? 0 (a.add (i*k)) k=some cs/\E cs z) len (fun i hi=>by
   obtain⟨cs',h1,h2⟩:=hx i (by omega);have hd:Rows.uptoBulk (D i)<=1048576:=by
    have:=zjt ((xz len).map D) (D i) (List.mem_map.2 ⟨i,List.mem_range.2 hi,rfl⟩);omega
   obtain⟨z,hz⟩:=hE n cs' (D i,Pl i) h2 (xy h1).2.1 hd;exact⟨z,cs',h1,hz⟩)
  refine⟨some a,len,m,zs,rfl,hz1.symm,by omega,hl,by omega,fun i z hi=>?_⟩;obtain⟨cs,h1,h2⟩:=hz2 i z hi;have hil:=(xh.1 hi).1;obtain⟨cs',g1,_⟩:=hx 0 (by omega);obtain⟨_,g2,g3⟩:=xy g1;have g4:=g3 0 hk0;obtain⟨v0,hv0⟩:∃ v0,cs'[0]?=some v0:=⟨cs'[0]'(by omega),List.getElem?_eq_getElem (by omega)⟩;rw[hv0,Nat.zero_mul]at g4;obtain⟨b,o,sp⟩:=a;obtain rfl:sp=none:=by simpa[Addr.add]using World.cell?_spot g4
  obtain⟨_,q1,q2⟩:=xy h1;refine⟨b,o,cs,rfl,q1,fun j v hj=>?_,h2⟩;have:=q2 j (by have:=(xh.1 hj).1;omega);rw[zua,hj]at this;exact this
theorem zy3 {t e:TypeId}{fuel:Nat}{cs0:List Value}{x:DataW H×List MemPlace}(ht:P.underlying t=some (.slice e))(he:P.underlying e=some .string)(hk:P.cellsOf e=1)
  (h:xo enc P w 0 (fun _=>true) true fuel t cs0=some x) (hN:Rows.uptoBulk x.1<=1048576) :
  ∃ (a:Option Addr) (len cap:Nat) (ss:List ByteArray),cs0=[.slice a len cap]/\len=ss.length/\ss.length<=2000000/\(∀ s∈ss,s.size<=maxLen)/\StrsAt w a ss:=by
 obtain⟨a,len,cap,zs,h1,h2,h3,h4,h5,h6⟩:=ze1 (E:=fun cs (z:ByteArray)=>cs=[.string z]/\z.size<=maxLen) ht hk (by omega) (fun n cs y hy _ _=>by
  obtain⟨s,hs,_,hsz⟩:=qg he hy;exact⟨s,hs,hsz⟩) h hN
 refine⟨a,len,cap,zs,h1,h2,h3,fun s hs=>?_,fun i s hi=>?_⟩
 ·obtain⟨i,hi⟩:=xu hs;obtain⟨_,_,_,_,_,_,_,g⟩:=h6 i s hi;exact g
 ·obtain⟨b,o,cs,e1,_,e3,e4,_⟩:=h6 i s hi;refine⟨b,o,e1,?_⟩;have:=e3 0 (.string s) (by rw[e4];rfl)
  rwa [qi,qe]at this
end
theorem zf4 {H:Type}{parts:List (DataW H)}{d:DataW H}(h:Rows.uptoBulk (.agg parts)<=1048576)(hd:d∈parts):Rows.uptoBulk d<=1048576:=by
 have:=zjt parts d hd;simp only[Rows.uptoBulk]at h;omega
section
variable {H:Type}{enc:TypeId×Value->H}{w:World}
theorem Tryz.cellsInt:Tryz.prog.cellsOf 3=1:=by kernel_rfl
theorem Tryz.cellsStr:Tryz.prog.cellsOf 9=1:=by kernel_rfl
theorem Tryz.cellsTop:Tryz.prog.cellsOf 104=1:=by kernel_rfl
theorem Tryz.cellsPin:Tryz.prog.cellsOf 165=3:=by kernel_rfl
theorem Tryz.cellsRel:Tryz.prog.cellsOf 108=1:=by kernel_rfl
theorem Tryz.cellsSvc:Tryz.prog.cellsOf 73=4:=by kernel_rfl
theorem Tryz.cellsFlt:Tryz.prog.cellsOf 26=3:=by kernel_rfl
theorem Tryz.cellsPins:Tryz.prog.cellsOf 106=1:=by kernel_rfl
theorem Tryz.cellsRels:Tryz.prog.cellsOf 71=1:=by kernel_rfl
theorem zdn {n:Nat}{c:Value}{y:DataW H×List MemPlace}(h:xo enc Tryz.prog w 0 (fun _=>true) true n 3 [c]=some y):∃ k,c=.int .i64 k:=by
 obtain⟨k,hk,_⟩:=DataW.trod_int Tryz.underlying3 h;simp at hk;exact⟨k,hk⟩
theorem zy5 {fuel:Nat}{cs0:List Value}{x:DataW H×List MemPlace}(h:xo enc Tryz.prog w 0 (fun _=>true) true fuel 23 cs0=some x)(hN:Rows.uptoBulk x.1<=1048576) :
  ∃ (a:Option Addr) (len cap:Nat) (ts:List Int),cs0=[.slice a len cap]/\len=ts.length/\ts.length<=2000000/\IntsAt w a ts:=by
 obtain⟨a,len,cap,zs,h1,h2,h3,h4,h5,h6⟩:=ze1 (E:=fun cs (z:Int)=>cs=[.int .i64 z]) Tryz.underlying23 Tryz.cellsTop (by omega) (fun n cs y hy hl _=>by
  obtain⟨xs,m,_,_,_,hlen,hf⟩:=xj Tryz.underlying104 hy
  match cs,hl with
  |[c],_ =>
   match xs,hlen with
   |[y0],_ =>
    have h0:=hf 0 _ rfl;simp only[xg,xe,xf,Tryz.cellsInt]at h0;obtain⟨k,hk⟩:=zdn (c:=c) h0;exact⟨k,by rw[hk]⟩) h hN
 refine⟨a,len,cap,zs,h1,h2,h3,fun i s hi=>?_⟩;obtain⟨b,o,cs,e1,_,e3,e4⟩:=h6 i s hi;refine⟨b,o,e1,?_⟩;have:=e3 0 (.int .i64 s) (by rw[e4];rfl)
 rwa [qi,qe]at this
theorem zyz {fuel:Nat}{cs0:List Value}{x:DataW H×List MemPlace}(h:xo enc Tryz.prog w 0 (fun _=>true) true fuel 106 cs0=some x)(hN:Rows.uptoBulk x.1<=1048576) :
  ∃ (a:Option Addr) (len cap:Nat) (ps:List PinD),cs0=[.slice a len cap]/\PinSl w a len cap ps:=by
 obtain⟨a,len,cap,zs,h1,h2,h3,h4,h5,h6⟩:=ze1 (E:=fun cs (p:PinD)=>cs=[.int .i64 p.t,.int .i64 p.w,.int .i64 p.r]) Tryz.underlying106 Tryz.cellsPin (by omega) (fun n cs y hy hl _=>by
  obtain⟨xs,m,_,_,_,hlen,hf⟩:=xj Tryz.underlying165 hy
  match cs,hl with
  |[c0,c1,c2],_ =>
   match xs,hlen with
   |[y0,y1,y2],_ =>
    have h0:=hf 0 _ rfl;have h1:=hf 1 _ rfl;have h2:=hf 2 _ rfl;simp only[xg,xe,xf,Tryz.cellsInt]at h0 h1 h2;obtain⟨k0,hk0⟩:=zdn (c:=c0) h0;obtain⟨k1,hk1⟩:=zdn (c:=c1) h1;obtain⟨k2,hk2⟩:=zdn (c:=c2) h2;exact⟨⟨k0,k1,k2⟩,by rw[hk0,hk1,hk2]⟩) h hN
 refine⟨a,len,cap,zs,h1,h2,h3,h4,by omega,fun i p hi=>?_⟩;obtain⟨b,o,cs,e1,_,e3,e4⟩:=h6 i p hi;subst e4;exact⟨b,o,e1,e3 0 _ rfl,e3 1 _ rfl,e3 2 _ rfl⟩
theorem zy0 {fuel:Nat}{cs0:List Value}{x:DataW H×List MemPlace}(h:xo enc Tryz.prog w 0 (fun _=>true) true fuel 71 cs0=some x)(hN:Rows.uptoBulk x.1<=1048576) :
  ∃ (a:Option Addr) (len cap:Nat) (rs:List (List PinD)),cs0=[.slice a len cap]/\RelSl PinSl w a len cap rs:=by
 obtain⟨a,len,cap,zs,h1,h2,h3,h4,h5,h6⟩:=ze1 (E:=fun cs (ps:List PinD)=>∃ pa pl pc,cs=[.slice pa pl pc]/\PinSl w pa pl pc ps) Tryz.underlying71 Tryz.cellsRel (by omega) (fun n cs y hy hl hy2=>by
  obtain⟨xs,m,_,hx,_,hlen,hf⟩:=xj Tryz.underlying108 hy
  match cs,hl with
  |[c],_ =>
   match xs,hlen with
   |[y0],_ =>
    have h0:=hf 0 _ rfl;simp only[xg,xe,xf,Tryz.cellsPins]at h0;rw[hx]at hy2;obtain⟨pa,pl,pc,ps,hc,hps⟩:=zyz (cs0:=[c]) h0 (zf4 hy2 (by simp));exact⟨ps,pa,pl,pc,hc,hps⟩) h hN
 refine⟨a,len,cap,zs,h1,h2,h3,h4,by omega,fun i ps hi=>?_⟩;obtain⟨b,o,cs,e1,_,e3,pa,pl,pc,e4,e5⟩:=h6 i ps hi;subst e4;have:=e3 0 _ rfl;rw[qi,qe]at this;exact⟨b,o,pa,pl,pc,e1,this,e5⟩
theorem zy4 {fuel:Nat}{cs0:List Value}{x:DataW H×List MemPlace}(h:xo enc Tryz.prog w 0 (fun _=>true) true fuel 24 cs0=some x)(hN:Rows.uptoBulk x.1<=1048576) :
  ∃ (a:Option Addr) (len cap:Nat) (vs:List SvcD),cs0=[.slice a len cap]/\len=vs.length/\vs.length<=2000000/\SvcsAt (RelSl PinSl) w a vs:=by
 obtain⟨a,len,cap,zs,h1,h2,h3,h4,h5,h6⟩:=ze1 (E:=fun cs (v:SvcD)=>∃ ra rl rc,cs=[.int .i64 v.size,.int .i64 v.now,.int .i64 v.want,.slice ra rl rc]/\RelSl PinSl w ra rl rc v.rels) Tryz.underlying24 Tryz.cellsSvc (by omega) (fun n cs y hy hl hy2=>by
  obtain⟨xs,m,_,hx,_,hlen,hf⟩:=xj Tryz.underlying73 hy
  match cs,hl with
  |[c0,c1,c2,c3],_ =>
   match xs,hlen with
   |[y0,y1,y2,y3],_ =>
    have h0:=hf 0 _ rfl;have h1:=hf 1 _ rfl;have h2:=hf 2 _ rfl;have h3:=hf 3 _ rfl;simp only[xg,xe,xf,Tryz.cellsInt,Tryz.cellsRels]at h0 h1 h2 h3;obtain⟨k0,hk0⟩:=zdn (c:=c0) h0;obtain⟨k1,hk1⟩:=zdn (c:=c1) h1;obtain⟨k2,hk2⟩:=zdn (c:=c2) h2;rw[hx]at hy2;obtain⟨ra,rl,rc,rs,hc,hrs⟩:=zy0 (cs0:=[c3]) h3 (zf4 hy2 (by simp));simp at hc;exact⟨⟨k0,k1,k2,rs⟩,ra,rl,rc,by rw[hk0,hk1,hk2,hc],hrs⟩) h hN
 refine⟨a,len,cap,zs,h1,h2,h3,fun i v hi=>?_⟩;obtain⟨b,o,cs,e1,_,e3,ra,rl,rc,e4,e5⟩:=h6 i v hi;subst e4;exact⟨b,o,ra,rl,rc,e1,e3 0 _ rfl,e3 1 _ rfl,e3 2 _ rfl,e3 3 _ rfl,e5⟩
end
end
section
open Go.RowKit Go.ChangeShapes Go.WideShapes
section
variable {H:Type}{enc:TypeId×Value->H}{w:World}
theorem Tryz.cellsMv:Tryz.prog.cellsOf 62=2:=by kernel_rfl
theorem Tryz.cellsStrs2:Tryz.prog.cellsOf 22=1:=by kernel_rfl
theorem Tryz.cellsTops2:Tryz.prog.cellsOf 23=1:=by kernel_rfl
theorem Tryz.cellsSvcs2:Tryz.prog.cellsOf 24=1:=by kernel_rfl
theorem zyy {fuel:Nat}{cs0:List Value}{x:DataW H×List MemPlace}(h:xo enc Tryz.prog w 0 (fun _=>true) true fuel 27 cs0=some x)(hN:Rows.uptoBulk x.1<=1048576) :
  ∃ (a:Option Addr) (len cap:Nat) (ms:List (Int×Int)),cs0=[.slice a len cap]/\len=ms.length/\ms.length<=2000000/\MvsAt w a ms:=by
 obtain⟨a,len,cap,zs,h1,h2,h3,h4,h5,h6⟩:=ze1 (E:=fun cs (p:Int×Int)=>cs=[.int .i64 p.1,.int .i64 p.2]) Tryz.underlying27 Tryz.cellsMv (by omega) (fun n cs y hy hl _=>by
  obtain⟨xs,m,_,_,_,hlen,hf⟩:=xj Tryz.underlying62 hy
  match cs,hl with
  |[c0,c1],_ =>
   match xs,hlen with
   |[y0,y1],_ =>
    have h0:=hf 0 _ rfl;have h1:=hf 1 _ rfl;simp only[xg,xe,xf,Tryz.cellsInt]at h0 h1;obtain⟨k0,hk0⟩:=zdn (c:=c0) h0;obtain⟨k1,hk1⟩:=zdn (c:=c1) h1;exact⟨(k0,k1),by rw[hk0,hk1]⟩) h hN
 refine⟨a,len,cap,zs,h1,h2,h3,fun i p hi=>?_⟩;obtain⟨b,o,cs,e1,_,e3,e4⟩:=h6 i p hi;subst e4;exact⟨b,o,e1,e3 0 _ rfl,e3 1 _ rfl⟩
end
set_option maxRecDepth 100000 in
theorem zyw {H:Type}{enc:TypeId×Value->H}{W:World}{base:Nat}{v:Value}{d:DataW H}{p:List MemPlace}(hv:Value.okWide Tryz.prog W .any base 26 v)(h:xv enc Tryz.prog W 0 (fun _=>true) true 26 v d p)(hN:Rows.uptoBulk d<=1048576) :
  ∃ (f:zac) (sa ta va:Option Addr) (sl sc tl tc vl vc:Nat),v=.agg #[.slice sa sl sc,.slice ta tl tc,.slice va vl vc]/\FleetAt W sa sl sc ta tl tc va vl vc f:=by
 obtain⟨cs,rfl,hcs⟩:=okWide_struct Tryz.underlying26 hv;obtain⟨fuel,hf⟩:=h;obtain⟨xs,m,_,hx,hl,hlen,hfs⟩:=xj Tryz.underlying26 hf;simp only[Value.cells]at hf hl hfs;rw[Tryz.cellsFlt]at hcs;obtain⟨l⟩:=cs;simp at hcs
 match l,hcs with
 |[c0,c1,c2],_ =>
  match xs,hlen with
  |[y0,y1,y2],_ =>
   have h0:=hfs 0 _ rfl;have h1:=hfs 1 _ rfl;have h2:=hfs 2 _ rfl;simp only[xg,xe,xf,Tryz.cellsStrs2,Tryz.cellsTops2,Tryz.cellsSvcs2]at h0 h1 h2;have hx1:d=.agg [y0.1,y1.1,y2.1]:=by simpa using congrArg Prod.fst hx
   rw[hx1]at hN;obtain⟨sa,sl,sc,ss,e0,a1,a2,a3,a4⟩:=zy3 (cs0:=[c0]) Tryz.underlying22 Tryz.underlying9 Tryz.cellsStr h0 (zf4 hN (by simp));obtain⟨ta,tl,tc,ts,e1,b1,b2,b3⟩:=zy5 (cs0:=[c1]) h1 (zf4 hN (by simp));obtain⟨va,vl,vc,vs,e2,g1,g2,g3⟩:=zy4 (cs0:=[c2]) h2 (zf4 hN (by simp));simp at e0 e1 e2;subst e0 e1 e2;exact⟨⟨ss,ts,vs⟩,sa,ta,va,sl,sc,tl,tc,vl,vc,rfl,⟨a1,a2,a3,a4,b1,b2,b3,g1,g2,g3⟩⟩
theorem zyx {H:Type}{enc:TypeId×Value->H}{W:World}{base:Nat}{v:Value}{d:DataW H}{p:List MemPlace}(hv:Value.okWide Tryz.prog W .any base 27 v)(h:xv enc Tryz.prog W 0 (fun _=>true) true 27 v d p)(hN:Rows.uptoBulk d<=1048576) :
  ∃ (ms:List (Int×Int)) (ma:Option Addr) (mc:Nat),v=.slice ma ms.length mc/\ms.length<=2000000/\MvsAt W ma ms:=by
 obtain⟨a,len,cap,rfl⟩:=okWide_slice Tryz.underlying27 hv;obtain⟨fuel,hf⟩:=h;obtain⟨a',len',cap',ms,e0,e1,e2,e3⟩:=zyy hf hN;simp[Value.cells]at e0;obtain⟨rfl,rfl,rfl⟩:=e0;subst e1;exact⟨ms,a,cap,rfl,e2,e3⟩
end
section
open Go.RowKit Go.ChangeShapes Go.WideShapes
section
variable {H:Type}{enc:TypeId×Value->H}{w:World}
theorem Tryz.cellsStp:Tryz.prog.cellsOf 66=5:=by kernel_rfl
theorem zg9 {k:Int}(h:(Lit.int .i64 k).wf=true):-9223372036854775808<=k/\k<=9223372036854775807:=by
 have h':decide (IntKind.i64.min<=k)=true/\decide (k<=IntKind.i64.max)=true:=by simpa[Lit.wf]using h
 have e1:IntKind.i64.min=-9223372036854775808:=by decide
 have e2:IntKind.i64.max=9223372036854775807:=by decide
 rw[e1,e2]at h';exact⟨of_decide_eq_true h'.1,of_decide_eq_true h'.2⟩
theorem zkm {n:Nat}{c:Value}{y:DataW H×List MemPlace}(h:xo enc Tryz.prog w 0 (fun _=>true) true n 3 [c]=some y):∃ k,c=.int .i64 k/\-9223372036854775808<=k/\k<=9223372036854775807:=by
 obtain⟨k,hk,_,hw⟩:=DataW.trod_int Tryz.underlying3 h;simp at hk;exact⟨k,hk,zg9 hw⟩
theorem yac3 {n:Nat}{c:Value}{y:DataW H×List MemPlace}(h:xo enc Tryz.prog w 0 (fun _=>true) true n 9 [c]=some y):∃ k,c=.string k/\k.size<=maxLen:=by
 obtain⟨k,hk,_,hw⟩:=qg Tryz.underlying9 h;simp at hk;exact⟨k,hk,hw⟩
theorem zy2 {fuel:Nat}{cs0:List Value}{x:DataW H×List MemPlace}(h:xo enc Tryz.prog w 0 (fun _=>true) true fuel 34 cs0=some x)(hN:Rows.uptoBulk x.1<=1048576) :
  ∃ (a:Option Addr) (len cap:Nat) (xs:List StD),cs0=[.slice a len cap]/\len=xs.length/\xs.length<=2000000/\StsAt w a xs/\StB xs:=by
 obtain⟨a,len,cap,zs,h1,h2,h3,h4,h5,h6⟩:=ze1 (E:=fun cs (p:StD)=>cs=[.int .i64 p.k,.int .i64 p.a,.int .i64 p.b,.int .i64 p.c,.string p.s]/\(-9223372036854775808<=p.a/\p.a<=9223372036854775807)/\(-9223372036854775808<=p.b/\p.b<=9223372036854775807)/\(-9223372036854775808<=p.c/\p.c<=9223372036854775807)/\p.s.size<=maxLen) Tryz.underlying34 Tryz.cellsStp (by omega) (fun n cs y hy hl _=>by
  obtain⟨xs,m,_,_,_,hlen,hf⟩:=xj Tryz.underlying66 hy
  match cs,hl with
  |[c0,c1,c2,c3,c4],_ =>
   match xs,hlen with
   |[y0,y1,y2,y3,y4],_ =>
    have h0:=hf 0 _ rfl;have h1:=hf 1 _ rfl;have h2:=hf 2 _ rfl;have h3:=hf 3 _ rfl;have h4:=hf 4 _ rfl;simp only[xg,xe,xf,Tryz.cellsInt,Tryz.cellsStr]at h0 h1 h2 h3 h4;obtain⟨k0,hk0⟩:=zdn (c:=c0) h0;obtain⟨k1,hk1,r1⟩:=zkm (c:=c1) h1;obtain⟨k2,hk2,r2⟩:=zkm (c:=c2) h2;obtain⟨k3,hk3,r3⟩:=zkm (c:=c3) h3;obtain⟨k4,hk4,r4⟩:=yac3 (c:=c4) h4;exact⟨⟨k0,k1,k2,k3,k4⟩,by rw[hk0,hk1,hk2,hk3,hk4],r1,r2,r3,r4⟩) h hN
 refine⟨a,len,cap,zs,h1,h2,h3,fun i p hi=>?_,fun p hp=>?_⟩
 ·obtain⟨b,o,cs,e1,_,e3,e4,_⟩:=h6 i p hi;subst e4;exact⟨b,o,e1,e3 0 _ rfl,e3 1 _ rfl,e3 2 _ rfl,e3 3 _ rfl,e3 4 _ rfl⟩
 ·obtain⟨i,hi⟩:=xu hp;obtain⟨b,o,cs,e1,_,e3,e4,e5⟩:=h6 i p hi;exact e5
end
theorem zy1 {H:Type}{enc:TypeId×Value->H}{W:World}{base:Nat}{v:Value}{d:DataW H}{p:List MemPlace}(hv:Value.okWide Tryz.prog W .any base 34 v)(h:xv enc Tryz.prog W 0 (fun _=>true) true 34 v d p)(hN:Rows.uptoBulk d<=1048576) :
  ∃ (xs:List StD) (ad:Option Addr) (cp:Nat),v=.slice ad xs.length cp/\xs.length<=2000000/\StsAt W ad xs/\StB xs:=by
 obtain⟨a,len,cap,rfl⟩:=okWide_slice Tryz.underlying34 hv;obtain⟨fuel,hf⟩:=h;obtain⟨a',len',cap',xs,e0,e1,e2,e3,e4⟩:=zy2 hf hN;simp[Value.cells]at e0;obtain⟨rfl,rfl,rfl⟩:=e0;subst e1;exact⟨xs,a,cap,rfl,e2,e3,e4⟩
end
section
open Go.ChangeShapes Go.WideShapes Go.ChangeAt Go.RowKit
theorem zkd:laidOutB Tryz.prog=true:=by kernel_rfl
set_option maxRecDepth 100000 in
theorem zwk (H:Type)(enc:TypeId×Value->H)(W:World)(base:Nat)(args:Array Value)(ds gs:List (DataW H))(before:List MemPlace)
  (hval:∀ (j:Nat) t v,Tryz.f6.params[j]?=some t->args[j]?=some v->Value.okWide Tryz.prog W .any base t v)
  (hW:DataW.Whole enc Tryz.prog Tryz.f6.params.toList Rows.endsSpec.vars false W args.toList ds gs before) (hk:Rows.uptoSmall H (ds++gs)=true) (hL:laidMetH Tryz.prog Rows.endsUptoRow.laid W) :
  Calls Tryz.prog 6 args W fun e W'=>∃ v,e=.returned v/\Rows.endsSpec.post enc Tryz.prog Tryz.f6 false true false false W args v W':=by
 have hW':=hW;obtain⟨p,q,hA0,hV,rfl,hfz,hnd⟩:=hW;have hA:DataW.TrodAll enc Tryz.prog W 0 (fun _=>true) true Tryz.f6.params.toList args.toList ds p:=hA0;rw[Tryz.params6]at hA hval;obtain⟨v0,vs0,d0,ds0,p0,q0,hargs,rfl,rfl,h0,r0⟩:=trodAll_cons hA;obtain⟨v1,vs1,d1,ds1,p1,q1,rfl,rfl,rfl,h1,r1⟩:=trodAll_cons r0;obtain⟨v2,vs2,d2,ds2,p2,q2,rfl,rfl,rfl,h2,r2⟩:=trodAll_cons r1;obtain⟨v3,vs3,d3,ds3,p3,q3,rfl,rfl,rfl,h3,r3⟩:=trodAll_cons r2;obtain⟨v4,vs4,d4,ds4,p4,q4,rfl,rfl,rfl,h4,r4⟩:=trodAll_cons r3;obtain⟨v5,vs5,d5,ds5,p5,q5,rfl,rfl,rfl,h5,r5⟩:=trodAll_cons r4;obtain⟨v6,vs6,d6,ds6,p6,q6,rfl,rfl,rfl,h6,r6⟩:=trodAll_cons r5;obtain⟨rfl,rfl,rfl⟩:=trodAll_nil r6;obtain rfl:args=#[v0,v1,v2,v3,v4,v5,v6]:=by cases args;simp_all
 obtain⟨rfl,rfl⟩:=trodVars_none hV;clear hA0;have hN:Rows.uptoBulk d4<=1048576/\Rows.uptoBulk d5<=1048576/\Rows.uptoBulk d6<=1048576:=by
  unfold Rows.uptoSmall at hk;have:=of_decide_eq_true hk;simp only[List.append_nil,Rows.uptoBulkAll]at this;omega
 obtain⟨a0,rfl,rfl,rfl,w0⟩:=open_int Tryz.underlying3 (hval 0 3 v0 rfl rfl) h0;obtain⟨a1,rfl,rfl,rfl,w1⟩:=open_int Tryz.underlying3 (hval 1 3 v1 rfl rfl) h1;obtain⟨a2,rfl,rfl,rfl,w2⟩:=open_int Tryz.underlying3 (hval 2 3 v2 rfl rfl) h2;obtain⟨a3,rfl,rfl,rfl,w3⟩:=open_int Tryz.underlying3 (hval 3 3 v3 rfl rfl) h3;have hlt4:∀ x∈p4,x.block<W.heap.size:=fun x hx=>by simpa using hW'.lt x (by simp[hx])
 have hlt5:∀ x∈p5,x.block<W.heap.size:=fun x hx=>by simpa using hW'.lt x (by simp[hx])
 have hlt6:∀ x∈p6,x.block<W.heap.size:=fun x hx=>by simpa using hW'.lt x (by simp[hx])
 obtain⟨f,sa,ta,va,sl,sc,tl,tc,vl,vc,rfl,hF⟩:=zyw (hval 4 26 v4 rfl rfl) h4 hN.1;obtain⟨ms,ma,mc,rfl,hml,hm⟩:=zyx (hval 5 27 v5 rfl rfl) h5 hN.2.1;obtain⟨xs,ad,cp,rfl,hxl,hx,hxb⟩:=zy1 (hval 6 34 v6 rfl rfl) h6 hN.2.2;refine(zwv a0 a1 a2 a3 (zg9 w0) (zg9 w1) (zg9 w2) (zg9 w3) f sa ta va sl sc tl tc vl vc ms ma mc xs ad cp W hF hm hml hx hxl hxb (yadf hL)).mono fun e W' ⟨he,bel⟩=>?_;subst he;have ha4:xv enc Tryz.prog W' 0 (fun b=>decide (b<W.heap.size)) true 26 (.agg #[.slice sa sl sc,.slice ta tl tc,.slice va vl vc]) d4 p4 :=
  Below.trod zkd (by kernel_rfl) (of_decide_eq_true (by kernel_rfl)) h4 bel hlt4
 have ha5:xv enc Tryz.prog W' 0 (fun b=>decide (b<W.heap.size)) true 27 (.slice ma ms.length mc) d5 p5 :=
  Below.trod zkd (by kernel_rfl) (of_decide_eq_true (by kernel_rfl)) h5 bel hlt5
 have ha6:xv enc Tryz.prog W' 0 (fun b=>decide (b<W.heap.size)) true 34 (.slice ad xs.length cp) d6 p6 :=
  Below.trod zkd (by kernel_rfl) (of_decide_eq_true (by kernel_rfl)) h6 bel hlt6
 exact⟨_,rfl,_,_,_,[],_,[],hW',trodAll_mk1 (shut_bool Tryz.underlying4 _),(trodAll_cons_mk (shut_int Tryz.underlying3 w0) (trodAll_cons_mk (shut_int Tryz.underlying3 w1) (trodAll_cons_mk (shut_int Tryz.underlying3 w2) (trodAll_cons_mk (shut_int Tryz.underlying3 w3) (trodAll_cons_mk ha4 (trodAll_cons_mk ha5 (trodAll_cons_mk ha6 trodAll_mk0))))))),rfl,bel.frame _,fun h=>by cases h⟩
theorem zwq (os:Os):laidMet Tryz.prog Rows.endsUptoRow.laid (({ xq Tryz.prog os ⟨#[],#[],[]⟩with heap:=(((xq Tryz.prog os ⟨#[],#[],[]⟩).heap.modify 0 (zd8 Rows.laid_internal_strconv_uint64pow10)).modify 1 (zd8 Rows.laid_math_bits_deBruijn32tab)).modify 2 (zd8 Rows.laid_math_bits_deBruijn64tab) }:World).forCall (fun _ _=>0) ⟨#[],#[.int .i64 0,.int .i64 0,.int .i64 0,.int .i64 0,.agg #[.slice none 0 0,.slice none 0 0,.slice none 0 0],.slice none 0 0,.slice none 0 0],[]⟩).memory :=
 laidMet_of_run' 8 (by kernel_rfl) (by kernel_rfl)
theorem zwt (os:Os){H:Type}(enc:TypeId×Value->H):∃ places,DataW.whole enc Tryz.prog (({ xq Tryz.prog os ⟨#[],#[],[]⟩with heap:=(((xq Tryz.prog os ⟨#[],#[],[]⟩).heap.modify 0 (zd8 Rows.laid_internal_strconv_uint64pow10)).modify 1 (zd8 Rows.laid_math_bits_deBruijn32tab)).modify 2 (zd8 Rows.laid_math_bits_deBruijn64tab) }:World).forCall (fun _ _=>0) ⟨#[],#[.int .i64 0,.int .i64 0,.int .i64 0,.int .i64 0,.agg #[.slice none 0 0,.slice none 0 0,.slice none 0 0],.slice none 0 0,.slice none 0 0],[]⟩).memory Tryz.f6.params.toList Rows.endsSpec.vars false (#[.int .i64 0,.int .i64 0,.int .i64 0,.int .i64 0,.agg #[.slice none 0 0,.slice none 0 0,.slice none 0 0],.slice none 0 0,.slice none 0 0]:Array Value).toList 8=some ([.lit (.int .i64 0),.lit (.int .i64 0),.lit (.int .i64 0),.lit (.int .i64 0),.agg [.nil,.nil,.nil],.nil,.nil],[],places) :=
 ⟨[],by kernel_rfl⟩
set_option maxRecDepth 100000 in
theorem zwp (os:Os)(started:os.Started)(H:Type)(enc:TypeId×Value->H)(F:Stop.Interp) :
  ReturnsInHanded {} Tryz.checked os 6 .any ((Rows.OpenSpec.upto Rows.endsSpec).preRow enc Tryz.prog Tryz.f6 Rows.endsUptoRow.domain false Rows.endsUptoRow.laid) (((Rows.OpenSpec.upto Rows.endsSpec).at F).post enc Tryz.prog Tryz.f6 false true false false):=by
 obtain⟨places,hx⟩:=zwt os enc;refine returnsInHanded_of_row (C:=Tryz.checked) (s:=Rows.OpenSpec.upto Rows.endsSpec) zx7 started (by kernel_rfl) Tryz.func6
  (witness_row_at (enc:=enc) (C:=Tryz.checked) false ({ xq Tryz.prog os ⟨#[],#[],[]⟩with heap:=(((xq Tryz.prog os ⟨#[],#[],[]⟩).heap.modify 0 (zd8 Rows.laid_internal_strconv_uint64pow10)).modify 1 (zd8 Rows.laid_math_bits_deBruijn32tab)).modify 2 (zd8 Rows.laid_math_bits_deBruijn64tab) }:World) #[.int .i64 0,.int .i64 0,.int .i64 0,.int .i64 0,.agg #[.slice none 0 0,.slice none 0 0,.slice none 0 0],.slice none 0 0,.slice none 0 0] rfl (by kernel_rfl) (by kernel_rfl) (by kernel_rfl)
   (OpenSpec.preRow_of_cond 8 hx (by kernel_rfl) (fun k hk=>by cases hk;rfl) (by kernel_rfl) (zwq os))) ?_
 intro W base args ds gs before hval hW _ hk _ hL _ _;exact zwk H enc W base args ds gs before hval hW (hk _ rfl) hL
set_option maxRecDepth 100000 in
theorem zwl:Rows.endsUptoRow.inPlace=Tryz.prog.inPlace 6:=by kernel_rfl
set_option maxRecDepth 100000 in
theorem zwm:Rows.endsUptoRow.unfollowed=Tryz.prog.unfollowed 6:=by kernel_rfl
set_option maxRecDepth 100000 in
theorem zwn:Rows.endsUptoRow.recurses=Tryz.prog.recurses 6:=by kernel_rfl
set_option maxRecDepth 100000 in
theorem zwo:Rows.endsUptoRow.named=Tryz.prog.varsNamed 6:=by kernel_rfl
theorem zwj:joinedFacts Tryz.prog 6 Tryz.f6 (Rows.OpenSpec.upto Rows.endsSpec).bare Rows.endsUptoRow=true:=by
 unfold joinedFacts;rw[<- zwl,<- zwm,<- zwn,<- zwo];kernel_rfl
theorem zwu:Rows.EndsUptoSaid :=
 OpenClaim.holds_of_cond 6 Tryz.f6 rfl rfl rfl rfl rfl rfl rfl ⟨rfl,rfl,rfl,rfl,rfl⟩ rfl rfl rfl rfl rfl (by kernel_rfl) Tryz.func6 zwj
  (of_decide_eq_true (by kernel_rfl)) (by unfold Func.isWrapper;first|(rw[if_pos (by decide +kernel)];kernel_rfl)|(rw[if_neg (by decide +kernel)];exact⟨rfl,rfl⟩))
  (fun os started H enc _ F=>by rw[OpenClaim.pre_eq_preRow];exact zwp os started H enc F)
theorem zws (f : FuncId) (fn : Func) (hf : Tryz.pinned.checked.prog.funcNamed "rollout/rolloutkeep.Ends" = some f) (hfn : Tryz.pinned.checked.prog.funcs[f]? = some fn) :
  false=Tryz.pinned.checked.prog.looks []/\∀ (j:Nat) t,fn.params[j]?=some t->Tryz.pinned.checked.prog.wantsStandIn t=false:=by
 obtain rfl : f = 6 := qj ((show Tryz.prog.funcNamed "rollout/rolloutkeep.Ends" = some 6 by kernel_rfl).symm.trans hf) |>.symm;obtain rfl : fn = Tryz.f6:=(qj (Tryz.func6.symm.trans hfn)).symm;refine ⟨by kernel_rfl,fun j t ht => ?_⟩;rw [Tryz.params6] at ht;have hm:=Array.mem_of_getElem? ht;simp only [List.mem_toArray,xp,xm,or_false] at hm;rcases hm with rfl | rfl | rfl | rfl | rfl | rfl | rfl
 iterate 4 exact(show Tryz.prog.wantsStandIn 3=false by kernel_rfl)
 ·exact(show Tryz.prog.wantsStandIn 26=false by kernel_rfl)
 ·exact(show Tryz.prog.wantsStandIn 27=false by kernel_rfl)
 ·exact(show Tryz.prog.wantsStandIn 34=false by kernel_rfl)
theorem ends_card:Rows.EndsUptoCardSaid :=
 Claim7.holds_tied_plain_at .later [] _ _ _ _ zwu (fun _ h=>by cases h) (by kernel_rfl) (fun _ h=>by cases h) endsUpto_row_tie rfl ⟨rfl,rfl⟩ (by kernel_rfl) rfl zws (by kernel_rfl)
#print axioms ends_card
end
end Go.Proofs.YtkkekopomiehlabGreatDoor
