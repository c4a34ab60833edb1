import Derived.Test.YtkkekopomiehlabGreatDoorESq1
set_option linter.unusedVariables false
set_option linter.unusedSimpArgs false
set_option maxHeartbeats 40000000
open List renaming getElem?_eq_getElem->xe,getElem?_map->xg,mem_of_getElem?->xm,zip_cons_cons->xq,getD_eq_getElem?_getD->xu,findIdx?_cons->xv,filter_filter->xy,drop_eq_getElem_cons->xz,getElem?_eq_none->qf,map_cons->qg,ext_getElem?->qh,find?_cons->qm,mem_map->qn
open ByteArray renaming size_append->xf,empty->xh
open Nat renaming le_refl->xj,zero_le->qj,add_mul->qk
open Bool renaming not_eq_true->xo,and_eq_true->qe
open Iff renaming rfl->xp
open Int renaming le_refl->qd,toNat->qi
open Go.ByteArray renaming toList_eq->qo
open Go.RowKit
set_option maxRecDepth 4000
namespace Go.RowKit
theorem Below.thn {w W w1:World}(h:Below w.heap.size w W)(k:Below W.heap.size W w1):Below w.heap.size w w1:=h.trans (k.mono h.size)
end Go.RowKit
namespace Go.Proofs.YtkkekopomiehlabGreatDoor
section
variable {w0 w W:World}{L:Nat->Nat}{gb r:Nat}{b:zav}
theorem BookE.abt (h:BookE w0 w L gb r b)(hz:w0.heap.size<=gb)(x:Bool):BookE w0 (w.setCell ⟨gb,8,none⟩ (.bool x)) L gb r { b with ab:=x }:=by
 obtain⟨sa,ta,va,ma,sl,sc,tl,tc,vl,vc,mc,nv,h⟩:=h;have hc:=(Chg.refl (·= gb) w).set (p:=⟨gb,8,none⟩) (.inl rfl) (.bool x);obtain⟨gt,tc',m,gv,vc',t,s,sv,tv,hr⟩:=h.run;refine⟨sa,ta,va,ma,sl,sc,tl,tc,vl,vc,mc,nv,h.row.set 8 _,h.lb,⟨gt,tc',m,gv,vc',t,s,sv,tv,hr.out hc (fun k hk=>by rw[hk];exact h.lb)⟩,h.low,h.bel.setCell (p:=⟨gb,8,none⟩) hz _,h.flt,h.mvs,hc.own h.nts (fun k hk e=>(h.ln k hk).2 e),h.ln⟩
theorem BookE.y (h:BookE w0 w L gb r b):w.cell? ⟨gb,5,none⟩=some (.pointer (some ⟨r,0,none⟩))/\w.cell? ⟨gb,8,none⟩=some (.bool b.ab)/\w.frozen? ⟨gb,8,none⟩=false/\gb<w.heap.size:=by
 obtain⟨sa,ta,va,ma,sl,sc,tl,tc,vl,vc,mc,nv,h⟩:=h;exact⟨h.row.cell rfl,h.row.cell rfl,h.row.frozen 8,h.row.lt⟩
theorem yad8 (c:CtlD):(zc9 c).st=2\/(zc9 c).st=4:=by
 unfold zc9 zat zbr zcr begC;cases c.wk<;>simp<;>split<;>simp
theorem zml {X:WayD}{WW:Nat->Int->Int->RecD->Prop}{P:zad}{a:Bool}(hi:PInv X WW P)(ha:a=true↔P.c.st=2\/P.c.st=4):(abtE P=0/\a=false/\((abtP P).c.st=2\/(abtP P).c.st=4))\/(abtE P=18/\a=true/\(abtP P).c.st=2)\/(abtE P=17/\a=true/\(abtP P).c.st=4)\/(abtE P=17/\a=false/\(abtP P).c.st=3):=by
 have hs:=hi.sh.st;have hov:zaj P.c=true↔P.c.st=3\/P.c.st=4:=by unfold zaj;simp
 unfold abtE abtP;rcases hs with⟨q,_⟩|⟨q,_⟩|⟨q,_⟩|⟨q,_⟩
 ·have:zaj P.c=false:=by rw[<- xo,hov,q];omega
  have ha':a=false:=by rw[<- xo,ha,q];omega
  rw[this,ha',q];simp;exact yad8 _
 ·have:zaj P.c=false:=by rw[<- xo,hov,q];omega
  rw[this,ha.2 (.inl q),q];simp[q]
 ·rw[hov.2 (.inl q)];have ha':a=false:=by rw[<- xo,ha,q];omega
  simp[ha',q]
 ·rw[hov.2 (.inr q),ha.2 (.inr q)];simp[q]
theorem zt2 {P':zad}{ab':Bool}(E st:Int)(hst:P'.c.st=st)(hE:(E=0/\b.ab=false/\ab'=true/\(st=2\/st=4))\/(E=18/\b.ab=true/\ab'=true/\st=2)\/(E=17/\b.ab=true/\ab'=true/\st=4)\/(E=17/\b.ab=false/\ab'=false/\st=3))(hz:w0.heap.size<=gb)(c1:Calls Tryz.prog 31 #[.pointer (some ⟨r,0,none⟩)] w fun e W=>e=.returned (.int .i64 E)/\∃ L',BookE w0 W L' gb r { b with P:=P' })(h:BookE w0 w L gb r b):Calls Tryz.prog 61 #[.pointer (some ⟨gb,0,none⟩)] w fun e W=>e=.returned (.bool true)/\∃ L',BookE w0 W L' gb r { b with P:=P',ab:=ab' }:=by
 have c2:=fun (W:World) L' (h:BookE w0 W L' gb r { b with P:=P' })=>zje h.x.2.2.2;simp only[hst]at c2;obtain⟨ba,hba⟩:∃ ba,ba=b.ab:=⟨_,rfl⟩;obtain⟨k5,k8,f8,glt⟩:=h.y;obtain⟨Q,hQ⟩:∃ Q:World->Prop,Q=fun W=>∃ L',BookE w0 W L' gb r { b with P:=P',ab:=ab' }:=⟨_,rfl⟩;show Calls _ _ _ _ fun e W=>e=.returned (.bool true)/\(fun W=>∃ L',BookE w0 W L' gb r { b with P:=P',ab:=ab' }) W;rw[<- hQ];have HQ:Hid (∀ W L',BookE w0 W L' gb r { b with P:=P',ab:=ab' }->Q W):=by
  show ∀ _,_;rw[hQ];exact fun W L' h=>⟨L',h⟩
 rw[<- hba]at hE k8;have HBA:=zaa hba;clear hQ hba hst h;generalize P'.c.pos=u1 at *;generalize P'.ti=u2 at *;generalize P'.c.nu=u3 at *;generalize P'.c.wk=u4 at *;generalize P'.c.pa=u5 at *;rcases hE with⟨rfl,rfl,rfl,rfl|rfl⟩|⟨rfl,rfl,rfl,rfl⟩|⟨rfl,rfl,rfl,rfl⟩|⟨rfl,rfl,rfl,rfl⟩
 iterate 2
  ·go_enter Tryz.func61,Tryz.ntmps61
   go_wp2_with (first
    |(go_at_call 31;refine c1.mono ?_;rintro e w1 ⟨rfl,L2,hB1⟩;have HB1:=zaa hB1;obtain⟨x5,x8,y8,xl⟩:=hB1.y;rw[<- HBA.out]at x8;clear hB1)
    |(go_at_call 36;refine(c2 _ _ HB1.out).mono ?_;rintro e w2 ⟨rfl,hb2⟩;have HB2:=zaa (HB1.out.keep hb2);obtain⟨z5,z8,v8,zl⟩:=HB2.out.y;rw[<- HBA.out]at z8))
   go_ret;exact⟨rfl,HQ.out _ _ ((HB2.out.abt hz true).keep (bel1 _ _))⟩
 iterate 3
  ·go_enter Tryz.func61,Tryz.ntmps61
   go_wp2_with (first
    |(go_at_call 31;refine c1.mono ?_;rintro e w1 ⟨rfl,L2,hB1⟩;have HB1:=zaa hB1;obtain⟨x5,x8,y8,xl⟩:=hB1.y;rw[<- HBA.out]at x8;clear hB1)
    |(go_at_call 36;refine(c2 _ _ HB1.out).mono ?_;rintro e w2 ⟨rfl,hb2⟩;have HB2:=zaa (HB1.out.keep hb2);obtain⟨z5,z8,v8,zl⟩:=HB2.out.y;rw[<- HBA.out]at z8))
   go_ret;exact⟨rfl,HQ.out _ L2 (by have q:=HB2.out;rw[<- HBA.out]at q;exact q.keep (bel1 _ _))⟩
def abtB (b:zav):zav:={ b with P:=abtP b.P,ab:=b.ab||decide (abtE b.P=0) }
theorem zuk {X:WayD}{WW:Nat->Int->Int->RecD->Prop}(hi:PInv X WW b.P)(hb:0<=b.P.c.pos/\b.P.c.pos<=4000000000)(ha:b.ab=true↔b.P.c.st=2\/b.P.c.st=4)(hz:w0.heap.size<=gb)(h:BookE w0 w L gb r b):Calls Tryz.prog 61 #[.pointer (some ⟨gb,0,none⟩)] w fun e W=>e=.returned (.bool true)/\∃ L',BookE w0 W L' gb r (abtB b):=by
 have c1:=(zl1 hb h.x.2.2.2).mono fun e W q=>(⟨q.1,h.turn q.2⟩:e=Ending.returned (.int .i64 (abtE b.P))/\∃ L2,BookE w0 W L2 gb r { b with P:=abtP b.P });refine zt2 (abtE b.P) (abtP b.P).c.st rfl ?_ hz c1 h;rcases zml hi ha with⟨q1,q2,q3⟩|⟨q1,q2,q3⟩|⟨q1,q2,q3⟩|⟨q1,q2,q3⟩
 ·exact .inl ⟨q1,q2,by rw[q1];simp,q3⟩
 ·exact .inr (.inl ⟨q1,q2,by rw[q2];rfl,q3⟩)
 ·exact .inr (.inr (.inl ⟨q1,q2,by rw[q2];rfl,q3⟩))
 ·exact .inr (.inr (.inr ⟨q1,q2,by rw[q1,q2];rfl,q3⟩))
end
structure Sme (P Q:zad):Prop where
 ss:Q.ss=P.ss
 rl:Q.vs.map SrvD.rels=P.vs.map SrvD.rels
 sz:Q.vs.map (fun V=>V.ins.length)=P.vs.map (fun V=>V.ins.length)
 kp:Q.ts.map TopD.keep=P.ts.map TopD.keep
theorem Sme.refl (P:zad):Sme P P:=⟨rfl,rfl,rfl,rfl⟩
theorem Sme.trans {P Q R:zad}(h:Sme P Q)(k:Sme Q R):Sme P R:=⟨k.ss.trans h.ss,k.rl.trans h.rl,k.sz.trans h.sz,k.kp.trans h.kp⟩
theorem zru {α β:Type}(f:α->β)(l:List α)(i:Nat)(y:α)(h:∀ x,l[i]?=some x->f y=f x):(l.set i y).map f=l.map f:=by
 apply qh;intro j;rw[xg,xg,List.getElem?_set];by_cases e:i=j
 ·subst e;rw[if_pos rfl];split
  ·rename_i hl;rw[xe hl];simp[h _ (xe hl)]
  ·rename_i hl;rw[qf (by omega)]
 ·rw[if_neg e]
theorem zox (vs:List SrvD)(m:MsgD):(folV vs m).map SrvD.rels=vs.map SrvD.rels/\(folV vs m).map (fun V=>V.ins.length)=vs.map (fun V=>V.ins.length):=by
 unfold folV;split
 ·unfold setI;refine⟨zru _ _ _ _ fun x hx=>?_,zru _ _ _ _ fun x hx=>?_⟩
  ·rw[xu,hx];rfl
  ·rw[xu,hx];show (x.ins.set _ _).length=_;rw[List.length_set]
 ·exact⟨rfl,rfl⟩
theorem Sme.del (P:zad)(k:Int):Sme P (delP P k):=by
 unfold delP;split
 ·unfold arrP;split
  ·exact⟨rfl,rfl,rfl,rfl⟩
  ·split
   ·exact⟨rfl,(zox _ _).1,(zox _ _).2,rfl⟩
   ·exact⟨rfl,rfl,rfl,rfl⟩
 ·exact Sme.refl P
theorem Sme.drp (P:zad)(k:Int):Sme P (drpP P k):=by
 unfold drpP;split<;>exact⟨rfl,rfl,rfl,rfl⟩
theorem Sme.cpy (P:zad)(k:Int):Sme P (cpyP P k):=by
 unfold cpyP;split<;>exact⟨rfl,rfl,rfl,rfl⟩
theorem zw2 (ti:Int)(ts:List TopD):(ts.map (fgtT ti)).map TopD.keep=ts.map TopD.keep:=by
 rw[List.map_map]
 congr 1
 funext T;show (fgtT ti T).keep=T.keep;unfold fgtT;split<;>rfl
theorem Sme.tck (P:zad):Sme P (tckP P):=⟨rfl,rfl,rfl,zw2 _ _⟩
theorem Sme.wrt (P:zad)(t:Nat)(sc da:ByteArray):Sme P (wrtP P t sc da):=by
 refine⟨rfl,rfl,rfl,?_⟩;show (P.ts.modify t _).map TopD.keep=_;apply qh;intro j;rw[xg,xg,List.getElem?_modify];cases P.ts[j]? with
 |none=>rfl
 |some T=>simp;split<;>rfl
def bckP (c:CtlD):Prop:=c.st=2\/c.st=4
theorem zur (c:CtlD):bckP (zat c)↔bckP c:=by
 unfold bckP zat zcr zbr;by_cases h1:c.st=1/\(c.ts.length:Int)<=c.pos
 ·rw[if_pos h1,if_neg (by simp)];simp;omega
 ·rw[if_neg h1];by_cases h2:c.st=2/\c.pos<=0
  ·rw[if_pos h2];simp;omega
  ·rw[if_neg h2]
theorem zuq (c:CtlD)(m:MsgD)(ti:Int):bckP (za4 c m ti)↔bckP c:=by
 unfold za4;split
 ·split
  ·unfold finC;rw[zur];exact xp
  ·exact xp
 ·exact xp
theorem zuo (P:zad)(k:Int):bckP (delP P k).c↔bckP P.c:=by
 unfold delP;split
 ·unfold arrP;split
  ·exact zuq _ _ _
  ·split<;>exact xp
 ·exact xp
theorem zul (c:CtlD)(ti:Int):bckP (actC c ti)↔bckP c:=by
 have h1:(actA c ti).st=c.st:=by unfold actA;split<;>rfl
 unfold actC bckP;split
 ·exact xp
 ·split
  ·unfold cmdC;split
   ·show (actA c ti).st=2\/(actA c ti).st=4↔_;rw[h1]
   ·rw[h1]
  ·rw[h1]
theorem zun (P:zad):bckP (crsP P).c↔bckP P.c:=by
 show bckP (crsC P.c P.ti)↔_;unfold crsC;split
 ·exact xp
 ·split<;>exact xp
theorem zup (P:zad)(k:Int):bckP (drpP P k).c↔bckP P.c:=by unfold drpP;split<;>exact xp
theorem zum (P:zad)(k:Int):bckP (cpyP P k).c↔bckP P.c:=by unfold cpyP;split<;>exact xp
def zcy (ss:List ByteArray)(x:zdj):RecD:=⟨schO ss x.by',x.da,x.ti⟩
def zay (keep ti:Int)(x:zdj):Bool:=decide (keep=0)||decide (ti-x.ti<keep)
structure Inv (N:Int)(b:zav):Prop where
 sf:Sfe b.f b.ms
 pi:PInv (zb8 b.f b.ms) (Wrt b.f) b.P
 ex:Ext b.P
 bn:Bnd N b.P
 ti:b.ti=b.P.ti
 sm:Sme (begP b.f b.ms) b.P
 ab:b.ab=true↔bckP b.P.c
 nn:(b.notes.length:Int)<=N
 nt:b.tale=true->∀ T,b.P.ts[0]?=some T->T.recs=(b.notes.filter (zay T.keep b.ti)).map (zcy b.f.ss)/\∀ x∈b.notes,(0<=x.ti/\x.ti<=b.ti)/\numB x.by' b.f.ss.length=true
theorem Inv.run {N:Int}{b:zav}(h:Inv N b){Q:zad}(h1:PInv (zb8 b.f b.ms) (Wrt b.f) Q)(h2:Ext Q)(h3:Bnd N Q)(h4:Sme b.P Q)(h5:bckP Q.c↔bckP b.P.c)(h6:Q.ti=b.P.ti)(h7:Q.ts=b.P.ts):Inv N { b with P:=Q } :=
 ⟨h.sf,h1,h2,h3,h.ti.trans h6.symm,h.sm.trans h4,h.ab.trans h5.symm,h.nn,fun ht T hT=>h.nt ht T (by rw[<- h7];exact hT)⟩
theorem Inv.del {N:Int}{b:zav}(h:Inv N b)(k:Int):Inv N { b with P:=delP b.P k } :=
 h.run (h.pi.del k) (h.ex.del k) (h.bn.del k) (Sme.del _ _) (zuo _ _) (zj5 _ _).1 (zj5 _ _).2.2.2.1
theorem Inv.drp {N:Int}{b:zav}(h:Inv N b)(k:Int):Inv N { b with P:=drpP b.P k } :=
 h.run (h.pi.drp k) (h.ex.drp k) (h.bn.drp k) (Sme.drp _ _) (zup _ _) (by unfold drpP;split<;>rfl) (by unfold drpP;split<;>rfl)
theorem Inv.cpy {N:Int}{b:zav}(h:Inv N b)(k:Int):Inv N { b with P:=cpyP b.P k } :=
 h.run (h.pi.cpy k) (h.ex.cpy k) (h.bn.cpy k) (Sme.cpy _ _) (zum _ _) (by unfold cpyP;split<;>rfl) (by unfold cpyP;split<;>rfl)
theorem Inv.crs {N:Int}{b:zav}(h:Inv N b):Inv N { b with P:=crsP b.P } :=
 h.run h.pi.crs (h.ex.crs h.pi) h.bn.crs ⟨rfl,rfl,rfl,rfl⟩ (zun _) rfl rfl
theorem Inv.pau {N:Int}{b:zav}(h:Inv N b)(on:Bool):Inv N { b with P:=if zaj b.P.c then b.P else pauP b.P on }:=by
 split
 ·exact h
 ·exact h.run (h.pi.pau on) (h.ex.pau on) (h.bn.pau on) ⟨rfl,rfl,rfl,rfl⟩ xp rfl rfl
theorem Inv.abt {N:Int}{b:zav}(h:Inv N b):Inv N (abtB b):=by
 have hc:=zml h.pi h.ab;have hrun:PInv (zb8 b.f b.ms) (Wrt b.f) (abtP b.P)/\Ext (abtP b.P)/\Bnd N (abtP b.P)/\Sme b.P (abtP b.P)/\(abtP b.P).ti=b.P.ti/\(abtP b.P).ts=b.P.ts:=by
  unfold abtP;split
  ·exact⟨h.pi,h.ex,h.bn,Sme.refl _,rfl,rfl⟩
  ·rename_i h1;split
   ·exact⟨h.pi,h.ex,h.bn,Sme.refl _,rfl,rfl⟩
   ·rename_i h2;have h3:b.P.c.st=1:=by
     have:=h.pi.sh.st;unfold zaj at h1;simp at h1;omega
    exact⟨h.pi.trn h3,h.ex.trn h.pi h3,h.bn.trn,⟨rfl,rfl,rfl,rfl⟩,rfl,rfl⟩
 obtain⟨r1,r2,r3,r4,r5,r6⟩:=hrun;refine⟨h.sf,r1,r2,r3,h.ti.trans r5.symm,h.sm.trans r4,?_,h.nn,fun ht T hT=>h.nt ht T (by rw[<- r6];exact hT)⟩;show (b.ab||decide (abtE b.P=0))=true↔bckP (abtP b.P).c;unfold bckP;rcases hc with⟨q1,q2,q3⟩|⟨q1,q2,q3⟩|⟨q1,q2,q3⟩|⟨q1,q2,q3⟩<;>rw[q1,q2]<;>simp<;>omega
theorem yaap {keep ti:Int}{l:List zdj}(h0:0<=keep):(l.filter (zay keep ti)).filter (zay keep (ti+1))=l.filter (zay keep (ti+1)):=by
 rw[xy]
 congr 1
 funext x;unfold zay;by_cases h1:keep=0
 ·simp[h1]
 ·simp[h1];omega
theorem zw3 {ss:List ByteArray}{l:List zdj}{T:TopD}{ti:Int}(h0:0<=T.keep)(h:T.recs=(l.filter (zay T.keep ti)).map (zcy ss)):(fgtT (ti+1) T).recs=(l.filter (zay T.keep (ti+1))).map (zcy ss):=by
 unfold fgtT;split
 ·rename_i h1;have h2:T.keep=0:=by omega
  have h3:zay 0 ti=zay 0 (ti+1):=by funext x;simp[zay]
  rw[h,h2,h3]
 ·rename_i h1;show T.recs.filter _=_;rw[h,List.filter_map,<- yaap h0,xy,xy]
  congr 1
  congr 1
  funext x;have h3:T.keep≠0:=by omega
  simp only[zay,Function.comp,zcy];simp[h3];rfl
theorem yadk {ss:List ByteArray}{l:List zdj}{P:zad}(hk:∀ (t:Nat) (T:TopD),P.ts[t]?=some T->0<=T.keep)(h:∀ T,P.ts[0]?=some T->T.recs=(l.filter (zay T.keep P.ti)).map (zcy ss)):∀ T,(tckP P).ts[0]?=some T->T.recs=(l.filter (zay T.keep (P.ti+1))).map (zcy ss):=fun T hT=>by
 have hT':(P.ts.map (fgtT (P.ti+1)))[0]?=some T:=hT;rw[xg]at hT';cases h0:P.ts[0]? with
 |none=>rw[h0]at hT';cases hT'
 |some T0 =>
  rw[h0]at hT';obtain rfl:fgtT (P.ti+1) T0=T:=by simpa using hT'
  have e:(fgtT (P.ti+1) T0).keep=T0.keep:=by unfold fgtT;split<;>rfl
  rw[e];exact zw3 (hk 0 T0 h0) (h T0 h0)
theorem Inv.tck {N:Int}{b:zav}(h:Inv N b):Inv (N+1) { b with P:=tckP b.P,ti:=b.ti+1 }:=by
 refine⟨h.sf,h.pi.tck,h.ex.tck h.pi,h.bn.tck,?_,h.sm.trans (Sme.tck _),h.ab.trans (zul _ _).symm,by have:=h.nn;show (b.notes.length:Int)<=N+1;omega,fun ht T hT=>?_⟩
 ·show b.ti+1=b.P.ti+1;rw[h.ti]
 ·have h1:=h.nt ht;rw[h.ti]at h1;have:=yadk (ss:=b.f.ss) (l:=b.notes) (P:=b.P) (fun t T hT=>(h.pi.rc.kp t T hT).1) (fun T hT=>(h1 T hT).1) T hT;show T.recs=(b.notes.filter (zay T.keep (b.ti+1))).map (zcy b.f.ss)/\∀ x∈b.notes,(0<=x.ti/\x.ti<=b.ti+1)/\_;rw[h.ti];refine⟨this,fun x hx=>?_⟩;cases h0:b.P.ts[0]? with
  |none =>
   have hT':(b.P.ts.map (fgtT (b.P.ti+1)))[0]?=some T:=hT;rw[xg,h0]at hT';cases hT'
  |some T0 =>
   have:=(h1 T0 h0).2 x hx;exact⟨by omega,this.2⟩
theorem Inv.dlv {N:Int}:∀ (n:Nat) {b:zav},Inv N b->Inv N { b with P:=dlvN n b.P }
 |0,b,h=>h
 |n+1,b,h=>by
  unfold dlvN;split
  ·exact h
  ·exact(h.del 0).dlv n
theorem Inv.qui {N:Int}{b:zav}(h:Inv N b):Inv (N+1) { b with P:=quiP b.P,ti:=b.ti+1 }:=(h.dlv 80).tck
theorem Inv.mono {N M:Int}{b:zav}(h:Inv N b)(hn:N<=M):Inv M b:=⟨h.sf,h.pi,h.ex,h.bn.mono hn,h.ti,h.sm,h.ab,by have:=h.nn;omega,h.nt⟩
theorem zmx {f:zac}{ms:List (Int×Int)}(h:Sfe f ms):Bnd 0 (begP f ms):=by
 have ho:=h.ob;refine⟨⟨qd _,qd _⟩,⟨qd _,qd _⟩,?_,?_,fun i T hT=>?_⟩
 ·show (tskN (lst0 f.vs) ms).length<=200;rw[zg5];exact h.l200
 ·show (f.ts.map _).length<=4;rw[List.length_map];have:zc2 f.ts=true:=by
   unfold ordB at ho;rw[qe,qe]at ho;exact ho.1.2
  unfold zc2 at this;rw[qe]at this;simpa using this.1
 ·have hT':(f.ts.map fun k=>(⟨k,[]⟩:TopD))[i]?=some T:=hT;rw[xg]at hT';cases hk:f.ts[i]? with
  |none=>rw[hk]at hT';cases hT'
  |some k =>
   rw[hk]at hT';obtain rfl:(⟨k,[]⟩:TopD)=T:=by simpa using hT'
   exact⟨by simp,fun x hx=>by cases hx⟩
theorem zus {f:zac}{ms:List (Int×Int)}(h:Sfe f ms)(tale:Bool):Inv 0 ⟨f,ms,tale,begP f ms,0,[],false⟩:=by
 obtain⟨h1,h2⟩:=zjm h (Wrt f);refine⟨h,h1,h2,zmx h,rfl,Sme.refl _,?_,qd _,fun _ T hT=>?_⟩
 ·show false=true↔bckP (begP f ms).c;unfold bckP;show false=true↔(if ms.length=0 then (3:Int) else 1)=2\/(if ms.length=0 then (3:Int) else 1)=4;split<;>simp
 ·have hT':(f.ts.map fun k=>(⟨k,[]⟩:TopD))[0]?=some T:=hT;rw[xg]at hT';cases hk:f.ts[0]? with
  |none=>rw[hk]at hT';cases hT'
  |some k =>
   rw[hk]at hT';obtain rfl:(⟨k,[]⟩:TopD)=T:=by simpa using hT'
   exact⟨rfl,fun x hx=>by cases hx⟩
theorem zym (ty:Ty)(ai:Option Addr)(li ci:Nat)(af:Option Addr)(lf cf:Nat)(w:World) :
  Calls Tryz.prog 246 #[.agg #[.int .i64 ty.kind,.string ty.letters,.bool ty.op,.slice ai li ci,.slice af lf cf]] w fun e w'=>e=.returned (if ty.kind=63 then .tuple #[.string ⟨#[95]⟩,.bool true] else .tuple #[.string xh,.bool false])/\Below w.heap.size w w':=by
 have hB:∀ o,Below w.heap.size w (w.alloc o):=fun o=>(Below.refl _ _).alloc (xj _) _;by_cases hk:ty.kind=63
 ·have hk':((ty.kind:Int) != 63)=false:=by simp;omega
  rw[if_pos hk];clear hk
  go_enter Tryz.func246,Tryz.ntmps246
  go_wp2_with fail
  go_ret2
  exact⟨rfl,by first|exact hB _|exact Below.refl _ _⟩
 ·have hk':((ty.kind:Int) != 63)=true:=by simp;omega
  rw[if_neg hk];clear hk
  go_enter Tryz.func246,Tryz.ntmps246
  go_wp2_with fail
  go_ret2
  exact⟨rfl,by first|exact hB _|exact Below.refl _ _⟩
theorem BB (w:World)(o o2:Obj):Below w.heap.size w ((w.alloc o).alloc o2):=((Below.refl _ _).alloc (xj _) _).alloc (by simp) _
theorem yaa0 (x r:Ty)(ai:Option Addr)(li ci:Nat)(af:Option Addr)(lf cf:Nat)(bi:Option Addr)(mi di:Nat)(bf:Option Addr)(mf df:Nat)(i:Nat)(w:World)(hx8:x.letters.size<=8)(hr8:r.letters.size<=8)(hi:i<x.letters.size) :
  Calls Tryz.prog 196 #[.agg #[.int .i64 x.kind,.string x.letters,.bool x.op,.slice ai li ci,.slice af lf cf],.agg #[.int .i64 r.kind,.string r.letters,.bool r.op,.slice bi mi di,.slice bf mf df],.string (oneB i)] w fun e w'=>e=.returned (dRet (zc0 x.letters r.letters r.op i))/\Below w.heap.size w w':=by
 have _hx:x.letters.size<=9000000:=by omega
 have _hr:r.letters.size<=9000000:=by omega
 have hlo:0<=bAt x.letters i:=by rw[zee _ _ hi];omega
 have hhi:=zeq x.letters i;obtain⟨D,hD⟩:∃ D,D=oneB i:=⟨_,rfl⟩;have hDs:D.size<=9000000:=by rw[hD,zak];omega
 have hb0:bAt D (qi 0)=i:=by rw[hD];exact zcu i (by omega)
 rw[<- hD];obtain⟨c,hc⟩:∃ c,c=bAt x.letters i:=⟨_,rfl⟩;have hb1:bAt x.letters (qi i)=c:=hc.symm;have hC:zc0 x.letters r.letters r.op i=if pOf r.letters c<0 then (if r.op=true then some (r.letters.extract 0 1) else none) else some (oneB c.toNat):=by rw[hc];rfl
 rw[<- hc]at hlo hhi;have htk:=fun w=>zr8 r bi mi di bf mf df c w hr8;have hfl:=fun w=>zot r bi mi di bf mf df w hr8;clear hD hc hi;by_cases hp:0<=pOf r.letters c
 ·have hp':¬ pOf r.letters c<0:=by omega
  have hr':Hid (zc0 x.letters r.letters r.op i=some (oneB c.toNat)):=by show _=_;rw[hC,if_neg hp']
  rw[show (r.op||decide (0<=pOf r.letters c))=true by simp[hp]]at htk;clear hC
  go_enter Tryz.func196,Tryz.ntmps196
  go_wp2_with (first|(go_at_call 245;refine(zan _ _ _ (by omega) (by first|exact hDs|exact _hx)).mono ?_;rintro e _ ⟨rfl,rfl⟩;first|rw[hb0]|rw[hb1])|(go_at_call 248;refine(htk _).mono ?_;rintro e w1 ⟨rfl,hb1⟩;obtain⟨hc1,hf1⟩:=zap hb1;have hz1:=hb1.size)|(go_at_call 249;refine(zd6 _ _ _ _hr).mono ?_;rintro e _ ⟨rfl,rfl⟩)|(go_at_call 251;refine(zel _ _ hlo (by omega)).mono ?_;rintro e w2 ⟨rfl,hb2⟩))
  go_ret2
  rw[hr'.out];exact⟨rfl,((BB w _ _).thn hb1).thn hb2⟩
 ·have hp':pOf r.letters c<0:=by omega
  cases hop:r.op with
  |true =>
   have hr':Hid (zc0 x.letters r.letters true i=some (r.letters.extract 0 1)):=by show _=_;rw[<- hop,hC,if_pos hp',hop];rfl
   rw[hop]at htk hfl;clear hC hp
   go_enter Tryz.func196,Tryz.ntmps196
   go_wp2_with (first|(go_at_call 245;refine(zan _ _ _ (by omega) (by first|exact hDs|exact _hx)).mono ?_;rintro e _ ⟨rfl,rfl⟩;first|rw[hb0]|rw[hb1])|(go_at_call 248;refine(htk _).mono ?_;rintro e w1 ⟨rfl,hb1⟩;obtain⟨hc1,hf1⟩:=zap hb1;have hz1:=hb1.size)|(go_at_call 249;refine(zd6 _ _ _ _hr).mono ?_;rintro e _ ⟨rfl,rfl⟩)|(go_at_call 251;refine(zel _ _ hlo (by omega)).mono ?_;rintro e w2 ⟨rfl,hb2⟩)|(go_at_call 250;refine(hfl _).mono ?_;rintro e w2 ⟨rfl,hb2⟩))
   go_ret2
   rw[hr'.out];exact⟨rfl,((BB w _ _).thn hb1).thn hb2⟩
  |false =>
   have hr':Hid (zc0 x.letters r.letters false i=none):=by show _=_;rw[<- hop,hC,if_pos hp',hop];rfl
   rw[hop,show (false||decide (0<=pOf r.letters c))=false by simp;omega]at htk;clear hC hp
   go_enter Tryz.func196,Tryz.ntmps196
   go_wp2_with (first|(go_at_call 245;refine(zan _ _ _ (by omega) (by first|exact hDs|exact _hx)).mono ?_;rintro e _ ⟨rfl,rfl⟩;first|rw[hb0]|rw[hb1])|(go_at_call 248;refine(htk _).mono ?_;rintro e w1 ⟨rfl,hb1⟩;obtain⟨hc1,hf1⟩:=zap hb1;have hz1:=hb1.size)|(go_at_call 249;refine(zd6 _ _ _ _hr).mono ?_;rintro e _ ⟨rfl,rfl⟩)|(go_at_call 251;refine(zel _ _ hlo (by omega)).mono ?_;rintro e w2 ⟨rfl,hb2⟩))
   go_ret2
   rw[hr'.out];exact⟨rfl,(BB w _ _).thn hb1⟩
def zeo (Tab:World->Prop)(m:Nat):Prop:=∀ (nw nr:Nat) (x r:Ty) (v:Val) (w:World) (ai af:Option Addr) (li ci lf cf:Nat) (bi bf:Option Addr) (mi di mf df:Nat),
 nw+nr<=m->nw<=100->nr<=100->Tab w->okT nw x->okT nr r->Rep nw w ai li ci af lf cf x->Rep nr w bi mi di bf mf df r->okV nw x v->(datV nw v).size<=64->wt m r<=20000 ->
 Calls Tryz.prog 130 #[.agg #[.int .i64 x.kind,.string x.letters,.bool x.op,.slice ai li ci,.slice af lf cf],.agg #[.int .i64 r.kind,.string r.letters,.bool r.op,.slice bi mi di,.slice bf mf df],.string (datV nw v)] w fun e w'=>e=.returned (dRet (rdT m x r v))/\Below w.heap.size w w'
theorem cat1 {a:Nat}(b:ByteArray)(ha:a<256):(oneB a++b).size=1+b.size/\bAt (oneB a++b) (qi 0)=a/\(oneB a++b).extract 1 (oneB a++b).size=b:=by
 have h1:(oneB a++b).size=1+b.size:=by rw[xf,zak]
 refine⟨h1,?_,?_⟩
 ·show bAt (oneB a++b) 0=a;rw[zep _ _ _ (by rw[zak];omega),zcu a ha]
 ·have:=(At.self (oneB a++b));rw[At.app,zak]at this;have h2:=this.2.ext;rw[show 0+1=1 by omega]at h2;rw[h1];exact h2
theorem zbu {W w1:World}(hb:Below W.heap.size W w1){b c:Nat}{v0 v1 v2 v3 v4 u0 u1 u2 u3 u4:Value}(h:W.cell? ⟨b,0,none⟩=some v0/\W.cell? ⟨b,1,none⟩=some v1/\W.cell? ⟨b,2,none⟩=some v2/\W.cell? ⟨b,3,none⟩=some v3/\W.cell? ⟨b,4,none⟩=some v4/\W.cell? ⟨c,0,none⟩=some u0/\W.cell? ⟨c,1,none⟩=some u1/\W.cell? ⟨c,2,none⟩=some u2/\W.cell? ⟨c,3,none⟩=some u3/\W.cell? ⟨c,4,none⟩=some u4) :
  w1.cell? ⟨b,0,none⟩=some v0/\w1.cell? ⟨b,1,none⟩=some v1/\w1.cell? ⟨b,2,none⟩=some v2/\w1.cell? ⟨b,3,none⟩=some v3/\w1.cell? ⟨b,4,none⟩=some v4/\w1.cell? ⟨c,0,none⟩=some u0/\w1.cell? ⟨c,1,none⟩=some u1/\w1.cell? ⟨c,2,none⟩=some u2/\w1.cell? ⟨c,3,none⟩=some u3/\w1.cell? ⟨c,4,none⟩=some u4:=by
 obtain⟨h0,h1,h2,h3,h4,k0,k1,k2,k3,k4⟩:=h;exact⟨zab hb h0,zab hb h1,zab hb h2,zab hb h3,zab hb h4,zab hb k0,zab hb k1,zab hb k2,zab hb k3,zab hb k4⟩
theorem zc3 (w:World)(x r:Ty)(ai:Option Addr)(li ci:Nat)(af:Option Addr)(lf cf:Nat)(bi:Option Addr)(mi di:Nat)(bf:Option Addr)(mf df:Nat) :
  ((w.alloc (.cells #[.int .i64 x.kind,.string x.letters,.bool x.op,.slice ai li ci,.slice af lf cf] 201)).alloc (.cells #[.int .i64 r.kind,.string r.letters,.bool r.op,.slice bi mi di,.slice bf mf df] 201)).cell? ⟨w.heap.size,0,none⟩=some (.int .i64 x.kind)/\((w.alloc (.cells #[.int .i64 x.kind,.string x.letters,.bool x.op,.slice ai li ci,.slice af lf cf] 201)).alloc (.cells #[.int .i64 r.kind,.string r.letters,.bool r.op,.slice bi mi di,.slice bf mf df] 201)).cell? ⟨w.heap.size,1,none⟩=some (.string x.letters)/\((w.alloc (.cells #[.int .i64 x.kind,.string x.letters,.bool x.op,.slice ai li ci,.slice af lf cf] 201)).alloc (.cells #[.int .i64 r.kind,.string r.letters,.bool r.op,.slice bi mi di,.slice bf mf df] 201)).cell? ⟨w.heap.size,2,none⟩=some (.bool x.op)/\((w.alloc (.cells #[.int .i64 x.kind,.string x.letters,.bool x.op,.slice ai li ci,.slice af lf cf] 201)).alloc (.cells #[.int .i64 r.kind,.string r.letters,.bool r.op,.slice bi mi di,.slice bf mf df] 201)).cell? ⟨w.heap.size,3,none⟩=some (.slice ai li ci)/\((w.alloc (.cells #[.int .i64 x.kind,.string x.letters,.bool x.op,.slice ai li ci,.slice af lf cf] 201)).alloc (.cells #[.int .i64 r.kind,.string r.letters,.bool r.op,.slice bi mi di,.slice bf mf df] 201)).cell? ⟨w.heap.size,4,none⟩=some (.slice af lf cf)/\((w.alloc (.cells #[.int .i64 x.kind,.string x.letters,.bool x.op,.slice ai li ci,.slice af lf cf] 201)).alloc (.cells #[.int .i64 r.kind,.string r.letters,.bool r.op,.slice bi mi di,.slice bf mf df] 201)).cell? ⟨w.heap.size+1,0,none⟩=some (.int .i64 r.kind)/\((w.alloc (.cells #[.int .i64 x.kind,.string x.letters,.bool x.op,.slice ai li ci,.slice af lf cf] 201)).alloc (.cells #[.int .i64 r.kind,.string r.letters,.bool r.op,.slice bi mi di,.slice bf mf df] 201)).cell? ⟨w.heap.size+1,1,none⟩=some (.string r.letters)/\((w.alloc (.cells #[.int .i64 x.kind,.string x.letters,.bool x.op,.slice ai li ci,.slice af lf cf] 201)).alloc (.cells #[.int .i64 r.kind,.string r.letters,.bool r.op,.slice bi mi di,.slice bf mf df] 201)).cell? ⟨w.heap.size+1,2,none⟩=some (.bool r.op)/\((w.alloc (.cells #[.int .i64 x.kind,.string x.letters,.bool x.op,.slice ai li ci,.slice af lf cf] 201)).alloc (.cells #[.int .i64 r.kind,.string r.letters,.bool r.op,.slice bi mi di,.slice bf mf df] 201)).cell? ⟨w.heap.size+1,3,none⟩=some (.slice bi mi di)/\((w.alloc (.cells #[.int .i64 x.kind,.string x.letters,.bool x.op,.slice ai li ci,.slice af lf cf] 201)).alloc (.cells #[.int .i64 r.kind,.string r.letters,.bool r.op,.slice bi mi di,.slice bf mf df] 201)).cell? ⟨w.heap.size+1,4,none⟩=some (.slice bf mf df):=by
 have h:(w.alloc (.cells #[.int .i64 x.kind,.string x.letters,.bool x.op,.slice ai li ci,.slice af lf cf] 201)).heap.size=w.heap.size+1:=by simp
 refine⟨zah _ (zam rfl rfl),zah _ (zam rfl rfl),zah _ (zam rfl rfl),zah _ (zam rfl rfl),zah _ (zam rfl rfl),?_⟩;rw[<- h];exact⟨zam rfl rfl,zam rfl rfl,zam rfl rfl,zam rfl rfl,zam rfl rfl⟩
theorem yaa3 (x r:Ty)(ai:Option Addr)(li ci:Nat)(af:Option Addr)(lf cf:Nat)(bi:Option Addr)(mi di:Nat)(bf:Option Addr)(mf df:Nat)(w:World) :
  Calls Tryz.prog 193 #[.agg #[.int .i64 x.kind,.string x.letters,.bool x.op,.slice ai li ci,.slice af lf cf],.agg #[.int .i64 r.kind,.string r.letters,.bool r.op,.slice bi mi di,.slice bf mf df],.string (oneB 0)] w fun e w'=>e=.returned (dRet (if r.kind=63 then some ⟨#[95]⟩ else none))/\Below w.heap.size w w':=by
 obtain⟨D,hD⟩:∃ D,D=oneB 0:=⟨_,rfl⟩;have hDs:D.size<=9000000:=by rw[hD,zak];omega
 have hb0:bAt D (qi 0)=(0:Nat):=by rw[hD];exact zcu 0 (by omega)
 rw[<- hD];have hna:=fun w=>zym r bi mi di bf mf df w;clear hD;by_cases hk:r.kind=63
 ·rw[if_pos hk];rw[if_pos hk]at hna;clear hk
  go_enter Tryz.func193,Tryz.ntmps193
  go_wp2_with (first|(go_at_call 245;refine(zan _ _ _ (by omega) hDs).mono ?_;rintro e _ ⟨rfl,rfl⟩;rw[hb0])|(go_at_call 246;refine(hna _).mono ?_;rintro e w1 ⟨rfl,hb1⟩))
  go_ret2
  exact⟨rfl,(BB w _ _).thn hb1⟩
 ·rw[if_neg hk];rw[if_neg hk]at hna;clear hk
  go_enter Tryz.func193,Tryz.ntmps193
  go_wp2_with (first|(go_at_call 245;refine(zan _ _ _ (by omega) hDs).mono ?_;rintro e _ ⟨rfl,rfl⟩;rw[hb0])|(go_at_call 246;refine(hna _).mono ?_;rintro e w1 ⟨rfl,hb1⟩))
  go_ret2
  exact⟨rfl,(BB w _ _).thn hb1⟩
theorem yaa4 {Tab:World->Prop}(F:zch Tab){m:Nat}(IH:zeo Tab m)(nw nr:Nat)(x r:Ty)(v:Val)(w:World)(ai af:Option Addr)(li ci lf cf:Nat)(bi bf:Option Addr)(mi di mf df:Nat)
  (hm:nw+nr<=m) (hnw:nw<=100) (hnr:nr<=100) (hT:Tab w) (hox:okT nw x) (hor:okT nr r) (hx:Rep nw w ai li ci af lf cf x) (hr:Rep nr w bi mi di bf mf df r) (hv:okV nw x v) (hsz:(datV nw v).size<=63) (hwt:wt m r<=20000) :
  Calls Tryz.prog 193 #[.agg #[.int .i64 x.kind,.string x.letters,.bool x.op,.slice ai li ci,.slice af lf cf],.agg #[.int .i64 r.kind,.string r.letters,.bool r.op,.slice bi mi di,.slice bf mf df],.string (oneB 1++datV nw v)] w fun e w'=>e=.returned (dRet (rdT m x r v))/\Below w.heap.size w w':=by
 obtain⟨h1,h2,h3⟩:=cat1 (a:=1) (datV nw v) (by omega);obtain⟨D,hD⟩:∃ D,D=oneB 1++datV nw v:=⟨_,rfl⟩;rw[<- hD]at h1 h2 h3 ⊢;have hDs:D.size<=9000000:=by omega
 have hsp:=fun w=>zcq D 1 D.size w (by omega) (xj _) hDs;rw[h3]at hsp;have hcall:=fun (W:World) (hb:Below w.heap.size w W)=>IH nw nr x r v W ai af li ci lf cf bi bf mi di mf df hm hnw hnr (F.1 _ _ hb hT) hox hor (hx.keep hb) (hr.keep hb) hv (by omega) hwt;simp only[Int.cast_ofNat_Int]at hsp;generalize datV nw v=V at hcall hsp;clear hD h3 hx hr hv IH h1;cases hy:rdT m x r v with
 |none =>
  rw[hy]at hcall;simp only[dRet]at hcall;clear hy
  go_enter Tryz.func193,Tryz.ntmps193
  go_wp2_with (first|(go_at_call 245;refine(zan _ _ _ (by omega) hDs).mono ?_;rintro e _ ⟨rfl,rfl⟩;rw[h2]))
  have e0:=zc3 w x r ai li ci af lf cf bi mi di bf mf df
  go_region_held3 (fun w'=>w'.cell? ⟨w.heap.size,0,none⟩=some (.int .i64 x.kind)/\w'.cell? ⟨w.heap.size,1,none⟩=some (.string x.letters)/\w'.cell? ⟨w.heap.size,2,none⟩=some (.bool x.op)/\w'.cell? ⟨w.heap.size,3,none⟩=some (.slice ai li ci)/\w'.cell? ⟨w.heap.size,4,none⟩=some (.slice af lf cf)/\w'.cell? ⟨w.heap.size+1,0,none⟩=some (.int .i64 r.kind)/\w'.cell? ⟨w.heap.size+1,1,none⟩=some (.string r.letters)/\w'.cell? ⟨w.heap.size+1,2,none⟩=some (.bool r.op)/\w'.cell? ⟨w.heap.size+1,3,none⟩=some (.slice bi mi di)/\w'.cell? ⟨w.heap.size+1,4,none⟩=some (.slice bf mf df)) (go_keep) (first|(go_at_call 247;refine(hsp _).mono ?_;rintro e _ ⟨rfl,rfl⟩)|(go_at_call 130;refine(hcall _ (by first|exact(BB w _ _).drew|exact BB w _ _)).mono ?_;rintro e w1 ⟨rfl,hb1⟩;have e1:=zbu hb1 e0))
  go_wp2_with fail
  go_ret2
  exact⟨rfl,(BB w _ _).drew.thn hb1⟩
 |some y =>
  rw[hy]at hcall;simp only[dRet]at hcall;clear hy
  go_enter Tryz.func193,Tryz.ntmps193
  go_wp2_with (first|(go_at_call 245;refine(zan _ _ _ (by omega) hDs).mono ?_;rintro e _ ⟨rfl,rfl⟩;rw[h2]))
  have e0:=zc3 w x r ai li ci af lf cf bi mi di bf mf df
  go_region_held3 (fun w'=>w'.cell? ⟨w.heap.size,0,none⟩=some (.int .i64 x.kind)/\w'.cell? ⟨w.heap.size,1,none⟩=some (.string x.letters)/\w'.cell? ⟨w.heap.size,2,none⟩=some (.bool x.op)/\w'.cell? ⟨w.heap.size,3,none⟩=some (.slice ai li ci)/\w'.cell? ⟨w.heap.size,4,none⟩=some (.slice af lf cf)/\w'.cell? ⟨w.heap.size+1,0,none⟩=some (.int .i64 r.kind)/\w'.cell? ⟨w.heap.size+1,1,none⟩=some (.string r.letters)/\w'.cell? ⟨w.heap.size+1,2,none⟩=some (.bool r.op)/\w'.cell? ⟨w.heap.size+1,3,none⟩=some (.slice bi mi di)/\w'.cell? ⟨w.heap.size+1,4,none⟩=some (.slice bf mf df)) (go_keep) (first|(go_at_call 247;refine(hsp _).mono ?_;rintro e _ ⟨rfl,rfl⟩)|(go_at_call 130;refine(hcall _ (by first|exact(BB w _ _).drew|exact BB w _ _)).mono ?_;rintro e w1 ⟨rfl,hb1⟩;have e1:=zbu hb1 e0))
  go_wp2_with fail
  go_ret2
  exact⟨rfl,(BB w _ _).drew.thn hb1⟩
theorem zre {C b:Nat}{t:ByteArray}(h:t.size<=C*b)(hC:C<=20001)(hb:b<=65):t.size<=1300100:=by
 have h1:=Nat.mul_le_mul hC hb;omega
theorem yaa2 {Tab:World->Prop}(F:zch Tab){m:Nat}(IH:zeo Tab m)(nw nr:Nat)(x r:Ty)(vs:List Val)(w:World)(ai af:Option Addr)(li ci lf cf:Nat)(bi bf:Option Addr)(mi di mf df:Nat)
  (hm:nw+nr<=m) (hnw:nw<=100) (hnr:nr<=100) (hT:Tab w) (hox:okT nw x) (hor:okT nr r) (hx:Rep nw w ai li ci af lf cf x) (hr:Rep nr w bi mi di bf mf df r) (hvl:vs.length<=16) (hv:∀ v∈vs,okV nw x v)
  (hsz:(oneB vs.length++catB (vs.map (datV nw))).size<=64) (hwt:wt m r<=20000) :
  Calls Tryz.prog 197 #[.agg #[.int .i64 x.kind,.string x.letters,.bool x.op,.slice ai li ci,.slice af lf cf],.agg #[.int .i64 r.kind,.string r.letters,.bool r.op,.slice bi mi di,.slice bf mf df],.string (oneB vs.length++catB (vs.map (datV nw)))] w fun e w'=>e=.returned (dRet (zbg (rdT m x r) vs 0 ⟨#[91]⟩))/\Below w.heap.size w w':=by
 obtain⟨h1,h2,_⟩:=cat1 (a:=vs.length) (catB (vs.map (datV nw))) (by omega);have hat:At (oneB vs.length++catB (vs.map (datV nw))) 1 (catB (vs.map (datV nw))):=by
  have:=At.self (oneB vs.length++catB (vs.map (datV nw)));rw[At.app,zak]at this;exact this.2
 obtain⟨D,hD⟩:∃ D,D=oneB vs.length++catB (vs.map (datV nw)):=⟨_,rfl⟩;rw[<- hD]at h1 h2 hat hsz ⊢;have hDs:D.size<=9000000:=by omega
 obtain⟨R,hR⟩:∃ R,R=zbg (rdT m x r) vs 0 ⟨#[91]⟩:=⟨_,rfl⟩;rw[<- hR];have HR:Hid (R=zbg (rdT m x r) vs 0 ⟨#[91]⟩):=hR;have HD:Hid (D.size=1+(catB (vs.map (datV nw))).size):=h1;have HV:Hid (∀ v∈vs,okV nw x v):=hv;have DA:=zhw F (s:=D) (by omega) nw (by omega);clear hD hR h1 hv
 go_enter Tryz.func197,Tryz.ntmps197
 go_wp2_with (go_at_call 245;refine(zan _ _ _ (by omega) hDs).mono ?_;rintro e _ ⟨rfl,rfl⟩;rw[h2])
 clear h2
 go_loopw [9,10,11] (fun vd vb vc wr=>∃ (c b:Nat) (us:List Val) (t:ByteArray),c+us.length=vs.length/\1<=b/\b<=D.size/\vc=.int .i64 c/\vb=.int .i64 b/\vd=.string t/\Hid (R=zbg (rdT m x r) us c t)/\Hid (At D b (catB (us.map (datV nw))))/\Hid (∀ u∈us,okV nw x u)/\Hid (t.size<=(wt m r+1)*b)/\Below (w.heap.size+2) ((w.alloc (.cells #[.int .i64 x.kind,.string x.letters,.bool x.op,.slice ai li ci,.slice af lf cf] 201)).alloc (.cells #[.int .i64 r.kind,.string r.letters,.bool r.op,.slice bi mi di,.slice bf mf df] 201)) wr) (fun _ _ c _=>17-(intOf c).toNat)
 case atStart=>exact⟨0,1,vs,⟨#[91]⟩,by omega,xj _,by have:=HD.out;omega,rfl,by go_num,rfl,HR,hat,HV,(by show (1:Nat)<=_;omega),Below.refl _ _⟩
 case round =>
  obtain⟨c,b,us,t,hcm,hb1,hbt,rfl,rfl,rfl,hR,hA,hU,ht,hb⟩:=hrel;have hbW:Below w.heap.size w wr:=(BB w _ _).trans (hb.mono (by omega));have e0:=zbu (W:=((w.alloc (.cells #[.int .i64 x.kind,.string x.letters,.bool x.op,.slice ai li ci,.slice af lf cf] 201)).alloc (.cells #[.int .i64 r.kind,.string r.letters,.bool r.op,.slice bi mi di,.slice bf mf df] 201))) (w1:=wr) (hb.mono (by simp)) (zc3 w x r ai li ci af lf cf bi mi di bf mf df);have hTw:Tab wr:=F.1 _ _ hbW hT;have hs2:=zre ht.out (by omega) (by omega);have hsw:w.heap.size+2<=wr.heap.size:=by have:=hb.size;simpa using this
  have one1:(⟨#[93]⟩:ByteArray).size=1:=rfl;have one2:(⟨#[44]⟩:ByteArray).size=1:=rfl;cases us with
  |nil =>
   have hcL:¬ (c:Int)<(vs.length:Int):=by simp at hcm;omega
   have hr':Hid (R=some (t++⟨#[93]⟩)):=hR
   go_wp2_with fail
   go_ret2
   rw[hr'.out];exact⟨rfl,hbW⟩
  |cons u us =>
   have hcL:(c:Int)<(vs.length:Int):=by simp at hcm;omega
   have hA2:At D b (datV nw u)/\At D (b+(datV nw u).size) (catB (us.map (datV nw))):=by
    have:=hA.out;simp only[qg,catB]at this;exact At.app.1 this
   have hu:=hU.out u (by simp);have hdx:=zhv nw x u b hu hA2.1;obtain⟨k,hk⟩:∃ k,k=b+(datV nw u).size:=⟨_,rfl⟩;rw[<- hk]at hdx hA2;have hk1:=hA2.1.le;have hku:=zfe _ _ _ hu;have hext:D.extract b k=datV nw u:=by rw[hk];exact hA2.1.ext
   have hcall:=DA.yes hbt hTw hox (hx.keep hbW) hdx;have hsp:=fun w=>zcq D b k w (by omega) (by omega) hDs;rw[hext]at hsp;have hrd:=fun (W:World) (hb':Below wr.heap.size wr W)=>IH nw nr x r u W ai af li ci lf cf bi bf mi di mf df hm hnw hnr (F.1 _ _ (hbW.thn hb') hT) hox hor (hx.keep (hbW.thn hb')) (hr.keep (hbW.thn hb')) hu (by omega) hwt;have HA:Hid (At D k (catB (us.map (datV nw)))):=hA2.2;have HU:Hid (∀ v∈us,okV nw x v):=fun v hv=>hU.out v (by simp[hv]);have hkD:k<=D.size:=by omega
   have hbk:b<k:=by omega
   have hxs:=fun y (hy:rdT m x r u=some y)=>zfl m nw x r u y hu hy;have hkb:(datV nw u).size=k-b:=by omega
   rw[hkb]at hxs;have hlen:c+1+us.length=vs.length:=by simp at hcm;omega
   generalize datV nw u=V at hsp hrd;clear hdx hA2 hext hk hU hA hk1 hku hkb hcm;cases hy:rdT m x r u with
   |none =>
    have hr':Hid (R=none):=by show _=_;rw[hR.out,zbg,hy]
    rw[hy]at hrd;simp only[dRet]at hrd;clear hy hxs
    go_wp2_with (first|(go_at_call 192;refine hcall.mono ?_;rintro e w1 ⟨rfl,hb1⟩;have e1:=zbu hb1 e0))
    go_region_held3 (fun w'=>w'.cell? ⟨w.heap.size,0,none⟩=some (.int .i64 x.kind)/\w'.cell? ⟨w.heap.size,1,none⟩=some (.string x.letters)/\w'.cell? ⟨w.heap.size,2,none⟩=some (.bool x.op)/\w'.cell? ⟨w.heap.size,3,none⟩=some (.slice ai li ci)/\w'.cell? ⟨w.heap.size,4,none⟩=some (.slice af lf cf)/\w'.cell? ⟨w.heap.size+1,0,none⟩=some (.int .i64 r.kind)/\w'.cell? ⟨w.heap.size+1,1,none⟩=some (.string r.letters)/\w'.cell? ⟨w.heap.size+1,2,none⟩=some (.bool r.op)/\w'.cell? ⟨w.heap.size+1,3,none⟩=some (.slice bi mi di)/\w'.cell? ⟨w.heap.size+1,4,none⟩=some (.slice bf mf df)) (go_keep) (first|(go_at_call 247;refine(hsp _).mono ?_;rintro e _ ⟨rfl,rfl⟩)|(go_at_call 130;refine(hrd _ (by first|exact hb1.drew|exact hb1)).mono ?_;rintro e w2 ⟨rfl,hb2⟩;have e2:=zbu hb2 e1))
    go_wp2_with fail
    go_ret2
    rw[hr'.out];exact⟨rfl,(hbW.thn hb1).drew.thn hb2⟩
   |some y =>
    have hys:=hxs y hy;rw[hy]at hrd;simp only[dRet]at hrd;have hsum:t.size+1+y.size<=(wt m r+1)*k:=by
     have h1:=zdo (C:=wt m r+1) (show 0<=b by omega) (show b<=k by omega);have h2:(wt m r+1)*(k-b)=wt m r*(k-b)+(k-b):=by rw[qk,Nat.one_mul]
     have:=ht.out;simp only[Nat.sub_zero]at h1;omega
    have hs3:y.size<=1300100:=by
     have h3:y.size<=(wt m r+1)*k:=by omega
     exact zre h3 (by omega) (by omega)
    by_cases hc0:c=0
    ·subst hc0;have hr':Hid (R=zbg (rdT m x r) us (0+1) (t++y)):=by show _=_;rw[hR.out,zbg,hy];rfl
     have HS:Hid ((t++y).size<=(wt m r+1)*k):=by show _<=_;rw[xf];omega
     clear hy hxs hsum hys
     go_wp2_with (first|(go_at_call 192;refine hcall.mono ?_;rintro e w1 ⟨rfl,hb1⟩;have e1:=zbu hb1 e0))
     go_region_held3 (fun w'=>w'.cell? ⟨w.heap.size,0,none⟩=some (.int .i64 x.kind)/\w'.cell? ⟨w.heap.size,1,none⟩=some (.string x.letters)/\w'.cell? ⟨w.heap.size,2,none⟩=some (.bool x.op)/\w'.cell? ⟨w.heap.size,3,none⟩=some (.slice ai li ci)/\w'.cell? ⟨w.heap.size,4,none⟩=some (.slice af lf cf)/\w'.cell? ⟨w.heap.size+1,0,none⟩=some (.int .i64 r.kind)/\w'.cell? ⟨w.heap.size+1,1,none⟩=some (.string r.letters)/\w'.cell? ⟨w.heap.size+1,2,none⟩=some (.bool r.op)/\w'.cell? ⟨w.heap.size+1,3,none⟩=some (.slice bi mi di)/\w'.cell? ⟨w.heap.size+1,4,none⟩=some (.slice bf mf df)) (go_keep) (first|(go_at_call 247;refine(hsp _).mono ?_;rintro e _ ⟨rfl,rfl⟩)|(go_at_call 130;refine(hrd _ (by first|exact hb1.drew|exact hb1)).mono ?_;rintro e w2 ⟨rfl,hb2⟩;have e2:=zbu hb2 e1))
     go_wp2_with fail
     go_roundw
     case rel=>exact⟨0+1,k,us,t++y,hlen,by omega,hkD,by go_num,rfl,rfl,hr',HA,HU,HS,hb.trans ((hb1.drew.thn hb2).mono hsw)⟩
     case measure=>simp[intOf]
    ·have hc0':(0:Int)<(c:Int):=by omega
     have hr':Hid (R=zbg (rdT m x r) us (c+1) (t++⟨#[44]⟩++y)):=by show _=_;rw[hR.out,zbg,hy];simp only[if_pos (show 0<c by omega)]
     have hsz1:(t++⟨#[44]⟩).size=t.size+1:=by rw[xf,one2]
     have HS:Hid ((t++⟨#[44]⟩++y).size<=(wt m r+1)*k):=by show _<=_;rw[xf,hsz1];omega
     clear hy hxs hsum hys
     go_wp2_with (first|(go_at_call 192;refine hcall.mono ?_;rintro e w1 ⟨rfl,hb1⟩;have e1:=zbu hb1 e0))
     go_region_held3 (fun w'=>w'.cell? ⟨w.heap.size,0,none⟩=some (.int .i64 x.kind)/\w'.cell? ⟨w.heap.size,1,none⟩=some (.string x.letters)/\w'.cell? ⟨w.heap.size,2,none⟩=some (.bool x.op)/\w'.cell? ⟨w.heap.size,3,none⟩=some (.slice ai li ci)/\w'.cell? ⟨w.heap.size,4,none⟩=some (.slice af lf cf)/\w'.cell? ⟨w.heap.size+1,0,none⟩=some (.int .i64 r.kind)/\w'.cell? ⟨w.heap.size+1,1,none⟩=some (.string r.letters)/\w'.cell? ⟨w.heap.size+1,2,none⟩=some (.bool r.op)/\w'.cell? ⟨w.heap.size+1,3,none⟩=some (.slice bi mi di)/\w'.cell? ⟨w.heap.size+1,4,none⟩=some (.slice bf mf df)) (go_keep) (first|(go_at_call 247;refine(hsp _).mono ?_;rintro e _ ⟨rfl,rfl⟩)|(go_at_call 130;refine(hrd _ (by first|exact hb1.drew|exact hb1)).mono ?_;rintro e w2 ⟨rfl,hb2⟩;have e2:=zbu hb2 e1))
     go_wp2_with fail
     go_roundw
     case rel=>exact⟨c+1,k,us,t++⟨#[44]⟩++y,hlen,by omega,hkD,by go_num,rfl,rfl,hr',HA,HU,HS,hb.trans ((hb1.drew.thn hb2).mono hsw)⟩
     case measure=>simp[intOf];omega
theorem Tryz.infoStr:(Tryz.prog.info? 9).map (fun i=>(i.zero,i.size,i.bytes))=some (some (.string ⟨#[]⟩),1,16):=by kernel_rfl
theorem zs4 {α β:Type}{fs:List α}{vs:List β}{i:Nat}{f:α}{v:β}(hf:fs[i]?=some f)(hv:vs[i]?=some v):(f,v)∈fs.zip vs:=by
 refine xm (i:=i) ?_;rw[List.getElem?_zip_eq_some];exact⟨hf,hv⟩
theorem zw4 {Tab:World->Prop}(F:zch Tab){nw:Nat}(hnw:nw<=100)(fs:List (Nat×Ty×ByteArray))(vs:List Val)(D:ByteArray)(w:World)(af:Option Addr)(lf cf:Nat)(hlf:lf=fs.length)(hfl:fs.length<=9000000)(hT:Tab w)(hoT:∀ f∈fs,f.1<256/\okT nw f.2.1)(hr:RepF nw w af fs)
  (hlen:vs.length=fs.length) (hok:∀ p∈fs.zip vs,okV nw p.1.2.1 p.2) (hD:D=catB (vs.map (datV nw))) (hDs:D.size<=64) :
  Calls Tryz.prog 252 #[.slice af lf cf,.string D] w fun e w'=>∃ g cap,e=.returned (.tuple #[.slice (some ⟨g,0,none⟩) fs.length cap,.bool true])/\(∀ i v,vs[i]?=some v->w'.cell? ⟨g,i,none⟩=some (.string (datV nw v)))/\Below w.heap.size w w':=by
 subst hlf;have _hs:D.size<=9000000:=by omega
 have HA:Hid (At D 0 (catB (vs.map (datV nw)))):=by rw[<- hD];exact At.self D
 have DA:=zhw F (s:=D) (by omega) nw (by omega);clear hD
 go_enter Tryz.func252,Tryz.ntmps252
 go_wp2_with fail
 go_loopw [6,7,16] (fun vp vb vi wr=>∃ (i b g cap:Nat) (xs:List Value),i<=fs.length/\b<=D.size/\i<=b/\vi=.int .i64 i/\vb=.int .i64 b/\vp=.slice (some ⟨g,0,none⟩) i cap /\
   wr.ownsRow w.heap.size 9 1 (.slice (some ⟨g,0,none⟩) i cap) i xs/\Hid (xs=(vs.take i).map fun v=>.string (datV nw v))/\Hid (At D b (catB ((vs.drop i).map (datV nw))))/\Below w.heap.size w wr) (fun _ _ i _=>fs.length-(intOf i).toNat)
 case atStart =>
  refine⟨0,0,w.heap.size,0,[],qj _,qj _,xj _,rfl,rfl,rfl,?_,by show _=_;simp,HA,(Below.refl _ _).alloc (xj _) _⟩;exact World.ownsRow_made (base:=w.heap.size) (e:=9) (size:=1) w #[] 0 (xj _) (by unfold maxLen;omega) rfl
 case round =>
  obtain⟨i,b,g,cap,xs,hi,hbD,hib,rfl,rfl,rfl,hown,hxs,hA,hb⟩:=hrel;have hTw:Tab wr:=F.1 _ _ hb hT;by_cases hlt:i<fs.length
  ·obtain⟨f,hf⟩:∃ f,fs[i]?=some f:=⟨fs[i],xe hlt⟩;obtain⟨v,hv⟩:∃ v,vs[i]?=some v:=⟨vs[i],xe (by omega)⟩;obtain⟨hf256,hokf⟩:=hoT f (xm hf);have hvk:okV nw f.2.1 v:=hok (f,v) (zs4 hf hv);have hdrop:vs.drop i=v::vs.drop (i+1):=by
    rw[xz (by omega)];rw[xe (by omega)]at hv;simp at hv;rw[hv]
   have htake:vs.take (i+1)=vs.take i++[v]:=by rw[List.take_add_one,hv];rfl
   have hA2:At D b (datV nw v)/\At D (b+(datV nw v).size) (catB ((vs.drop (i+1)).map (datV nw))):=by
    have:=hA.out;rw[hdrop]at this;simp only[qg,catB]at this;exact At.app.1 this
   have hdx:=zhv nw f.2.1 v b hvk hA2.1;obtain⟨k,hk⟩:∃ k,k=b+(datV nw v).size:=⟨_,rfl⟩;rw[<- hk]at hdx hA2;have hk1:=hA2.1.le;have hku:=zfe _ _ _ hvk;have hext:D.extract b k=datV nw v:=by rw[hk];exact hA2.1.ext
   have hsp:∀ w,Calls Tryz.prog 247 #[.string D,.int .i64 b,.int .i64 k] w fun e w'=>e=.returned (.string (datV nw v))/\w=w':=fun w=>by
    have:=zcq D b k w (by omega) (by omega) _hs;rw[hext]at this;exact this.mono (fun _ _ ⟨h1,h2⟩=>⟨h1,h2.symm⟩)
   rcases hr with⟨hr,_⟩|⟨h,rfl,hcells⟩
   ·rw[hr]at hf;simp at hf
   ·obtain⟨p1,p2,p3,q1,q2,q3,hrep,k0,k1,k2,k3,k4,k5,k6⟩:=hcells i f hf;have k0:=zab hb k0;have k1:=zab hb k1;have k2:=zab hb k2;have k3:=zab hb k3;have k4:=zab hb k4;have k5:=zab hb k5;have k6:=zab hb k6;have hg':h<wr.heap.size:=zag k0;have hrepw:=hrep.keep hb;have hBa:∀ o,Below wr.heap.size wr (wr.alloc o):=fun o=>(Below.refl _ _).alloc (xj _) _;have hTa:∀ o,Tab (wr.alloc o):=fun o=>F.1 _ _ (hBa o) hTw;have hcall:=fun o=>DA.yes hbD (hTa o) hokf (hrepw.keep (hBa o)) hdx;have HA2:Hid (At D k (catB ((vs.drop (i+1)).map (datV nw)))):=hA2.2;obtain⟨V,hV⟩:∃ V,V=datV nw v:=⟨_,rfl⟩;rw[<- hV]at hsp;have HX:Hid (xs++[.string V]=(vs.take (i+1)).map fun v=>.string (datV nw v)):=by show _=_;rw[htake,List.map_append,<- hxs.out,hV];rfl
    have hbk:b<k:=by omega
    have hkD:k<=D.size:=by omega
    obtain⟨i0,hi0,hz0,hzz1,hzz2⟩:=info_parts Tryz.infoStr;have hgl:=hown.lt g rfl;have hzr:w.heap.size<=wr.heap.size:=hb.size;have hown3:∀ (w1:World) (o:Obj) (o2:Obj),Below (wr.alloc o).heap.size (wr.alloc o) w1->(w1.alloc o2).ownsRow w.heap.size 9 1 (.slice (some ⟨g,0,none⟩) i cap) i xs:=fun w1 o o2 hb1=>(zas (hown.alloc o) hb1).alloc o2;have hbig:∀ (w1 w3:World) (o o2:Obj),Below (wr.alloc o).heap.size (wr.alloc o) w1->(w1.alloc o2).grownBy w3 (some g)->Below w.heap.size w w3:=fun w1 w3 o o2 hb1 hgrow=>by
     have z1:=hb1.size;simp at z1;have c1:=(hb.alloc hzr o).thn hb1;exact Below.grown (c1.alloc (by omega) o2) hgrow (by simp;omega) (fun k hk=>by cases hk;omega)
    clear hcells hA hdrop hk hA2 hext hku hk1 hdx htake hV hvk hrep hrepw hxs
    go_wp2_with (first|(go_at_call 192;refine(hcall _).mono ?_;rintro e w1 ⟨rfl,hb1⟩;obtain⟨hc1,hf1⟩:=zap hb1;have hz1:wr.heap.size<=w1.heap.size:=(by have:=hb1.size;simp at this;omega))|(go_at_call 247;refine(hsp _).mono ?_;rintro e _ ⟨rfl,rfl⟩)|(at_builtin;refine wpList_append_lies _ rfl _ _ _ rfl w.heap.size 9 i0 _ 1 16 Tryz.underlying22 hi0 hz0 hzz1 hzz2 rfl (by omega) _ i xs rfl (hown3 _ _ _ hb1) ⟨w1.heap.size,0,none⟩ 1 1 [.string V] rfl rfl (World.news_of_block (heap_alloc_new w1 _)) (by simp[Value.oneCell']) (by omega) (by unfold maxLen;omega) (by omega) (by simp;omega) (w1.heap.size+1) (by simp) ?_;intro g' cap' w3 hown' hgrow hat hlt3;have hb3:=hbig _ _ _ _ hb1 hgrow))
    go_roundw
    case rel=>exact⟨i+1,k,g',cap',xs++[.string V],by omega,hkD,by omega,by go_num,rfl,rfl,hown',HX,HA2,hb3⟩
    case measure=>simp[intOf];omega
  ·obtain rfl:i=fs.length:=by omega
   go_wp2_with fail
   go_ret2
   refine⟨g,cap,rfl,fun j u hu=>zbm hown ?_,hb⟩;rw[hxs.out,xg,List.getElem?_take,if_pos (by rcases Nat.lt_or_ge j vs.length with h|h;omega;rw[qf h]at hu;cases hu),hu];rfl
theorem zqq (c:Nat):∀ (fs:List (Nat×Ty×ByteArray)) (vs:List Val),vs.length=fs.length ->
  (plF fs c=-1/\(fs.zip vs).find? (fun p=>p.1.1 == c)=none) \/
  ∃ i f v,plF fs c=(i:Nat)/\i<fs.length/\fs[i]?=some f/\vs[i]?=some v/\(fs.zip vs).find? (fun p=>p.1.1 == c)=some (f,v)
 |[],vs,h=>.inl ⟨rfl,rfl⟩
 |f::fs,[],h=>by simp at h
 |f::fs,v::vs,h=>by
  by_cases hc:(f.1 == c)=true
  ·right;refine⟨0,f,v,?_,by simp,rfl,rfl,?_⟩
   ·unfold plF;rw[xv,if_pos hc]
   ·rw[xq,List.find?_cons_of_pos (by exact hc)]
  ·have hc'':((f,v).1.1 == c)=false:=by simpa using hc
   rcases zqq c fs vs (by simpa using h) with⟨h1,h2⟩|⟨i,f',v',h1,h2,h3,h4,h5⟩
   ·left;constructor
    ·unfold plF at h1 ⊢;rw[xv,if_neg hc];cases hx:List.findIdx? (fun g=>g.1 == c) fs with
     |none=>rfl
     |some k=>rw[hx]at h1;simp only at h1;omega
    ·rw[xq,qm,hc''];exact h2
   ·right;refine⟨i+1,f',v',?_,by simp;omega,by simpa using h3,by simpa using h4,?_⟩
    ·unfold plF at h1 ⊢;rw[xv,if_neg hc];cases hx:List.findIdx? (fun g=>g.1 == c) fs with
     |none=>rw[hx]at h1;simp only at h1;omega
     |some k=>rw[hx]at h1;simp only at h1;simp only[Option.map_some];omega
    ·rw[xq,qm,hc''];exact h5
theorem zxz {d:ByteArray}(h:1<=d.size):d.toList.isEmpty=false:=by
 rw[qo];cases hl:d.data.toList with
 |nil =>
  have h2:d.data.size=0:=by rw[<- Array.length_toList,hl];rfl
  have h3:d.size=d.data.size:=rfl;omega
 |cons _ _=>rfl
theorem zor (w:World)(gf:Nat×Ty×ByteArray)(bi:Option Addr)(mi di:Nat)(bf:Option Addr)(mf df:Nat) :
  (w.alloc (.cells #[.int .i64 gf.1,.int .i64 gf.2.1.kind,.string gf.2.1.letters,.bool gf.2.1.op,.slice bi mi di,.slice bf mf df,.string gf.2.2] 315)).cell? ⟨w.heap.size,1,none⟩=some (.int .i64 gf.2.1.kind)/\(w.alloc (.cells #[.int .i64 gf.1,.int .i64 gf.2.1.kind,.string gf.2.1.letters,.bool gf.2.1.op,.slice bi mi di,.slice bf mf df,.string gf.2.2] 315)).cell? ⟨w.heap.size,2,none⟩=some (.string gf.2.1.letters)/\(w.alloc (.cells #[.int .i64 gf.1,.int .i64 gf.2.1.kind,.string gf.2.1.letters,.bool gf.2.1.op,.slice bi mi di,.slice bf mf df,.string gf.2.2] 315)).cell? ⟨w.heap.size,3,none⟩=some (.bool gf.2.1.op)/\(w.alloc (.cells #[.int .i64 gf.1,.int .i64 gf.2.1.kind,.string gf.2.1.letters,.bool gf.2.1.op,.slice bi mi di,.slice bf mf df,.string gf.2.2] 315)).cell? ⟨w.heap.size,4,none⟩=some (.slice bi mi di)/\(w.alloc (.cells #[.int .i64 gf.1,.int .i64 gf.2.1.kind,.string gf.2.1.letters,.bool gf.2.1.op,.slice bi mi di,.slice bf mf df,.string gf.2.2] 315)).cell? ⟨w.heap.size,5,none⟩=some (.slice bf mf df) :=
 ⟨zam rfl rfl,zam rfl rfl,zam rfl rfl,zam rfl rfl,zam rfl rfl⟩
theorem zej {W w1:World}(hb:Below W.heap.size W w1){b o0 o1 o2 o3 o4:Nat}{v0 v1 v2 v3 v4:Value}(h:W.cell? ⟨b,o0,none⟩=some v0/\W.cell? ⟨b,o1,none⟩=some v1/\W.cell? ⟨b,o2,none⟩=some v2/\W.cell? ⟨b,o3,none⟩=some v3/\W.cell? ⟨b,o4,none⟩=some v4) :
  w1.cell? ⟨b,o0,none⟩=some v0/\w1.cell? ⟨b,o1,none⟩=some v1/\w1.cell? ⟨b,o2,none⟩=some v2/\w1.cell? ⟨b,o3,none⟩=some v3/\w1.cell? ⟨b,o4,none⟩=some v4:=by
 obtain⟨h0,h1,h2,h3,h4⟩:=h;exact⟨zab hb h0,zab hb h1,zab hb h2,zab hb h3,zab hb h4⟩
theorem yaa1 {Tab:World->Prop}(F:zch Tab){m:Nat}(IH:zeo Tab m)(nw nr:Nat)(hm:nw+nr<=m)(hnw:nw<=100)(hnr:nr<=100)(fs:List (Nat×Ty×ByteArray))(vs:List Val)(gf:Nat×Ty×ByteArray)(w:World)(g cf pb pc:Nat)(bi bf:Option Addr)(mi di mf df:Nat)
  (hfl:fs.length<=9000000) (hT:Tab w) (hoT:∀ f∈fs,f.1<256/\okT nw f.2.1) (hlen:vs.length=fs.length) (hok:∀ p∈fs.zip vs,okV nw p.1.2.1 p.2) (hDs:(catB (vs.map (datV nw))).size<=64)
  (hcells:∀ i f,fs[i]?=some f->∃ p1 p2 p3 q1 q2 q3,Rep nw w p1 p2 p3 q1 q2 q3 f.2.1/\w.cell? ⟨g,i*7,none⟩=some (.int .i64 f.1)/\w.cell? ⟨g,i*7+1,none⟩=some (.int .i64 f.2.1.kind)/\w.cell? ⟨g,i*7+2,none⟩=some (.string f.2.1.letters)/\w.cell? ⟨g,i*7+3,none⟩=some (.bool f.2.1.op)/\w.cell? ⟨g,i*7+4,none⟩=some (.slice p1 p2 p3)/\w.cell? ⟨g,i*7+5,none⟩=some (.slice q1 q2 q3)/\w.cell? ⟨g,i*7+6,none⟩=some (.string f.2.2))
  (hparts:∀ i v,vs[i]?=some v->w.cell? ⟨pb,i,none⟩=some (.string (datV nw v)))
  (hog:okT nr gf.2.1) (hrg:Rep nr w bi mi di bf mf df gf.2.1) (hwt:wt m gf.2.1<=20000) :
  Calls Tryz.prog 253 #[.slice (some ⟨g,0,none⟩) fs.length cf,.slice (some ⟨pb,0,none⟩) fs.length pc,.agg #[.int .i64 gf.1,.int .i64 gf.2.1.kind,.string gf.2.1.letters,.bool gf.2.1.op,.slice bi mi di,.slice bf mf df,.string gf.2.2]] w fun e w'=>e=.returned (dRet (zbi (rdT m) (fs.zip vs) gf))/\Below w.heap.size w w':=by
 have hB:∀ o,Below w.heap.size w (w.alloc o):=fun o=>(Below.refl _ _).alloc (xj _) _;have hpl:∀ o,Calls Tryz.prog 284 #[.slice (some ⟨g,0,none⟩) fs.length cf,.int .i64 gf.1] (w.alloc o) fun e w'=>e=.returned (.int .i64 (plF fs gf.1))/\Below (w.alloc o).heap.size (w.alloc o) w':=fun o =>
  zk6 fs gf.1 (w.alloc o) g cf hfl (fun i f hi=>by
   obtain⟨p1,p2,p3,q1,q2,q3,_,k0,k1,k2,k3,k4,k5,k6⟩:=hcells i f hi;exact⟨p1,p2,p3,q1,q2,q3,zah _ k0,zah _ k1,zah _ k2,zah _ k3,zah _ k4,zah _ k5,zah _ k6⟩)
 rcases zqq gf.1 fs vs hlen with⟨h1,h2⟩|⟨i,f,v,h1,hi,hf,hv,h2⟩
 ·rw[h1]at hpl;have hP:zbi (rdT m) (fs.zip vs) gf=if gf.2.2.size=0 then none else some gf.2.2:=by unfold zbi;rw[h2]
  clear hcells hparts hok hoT h1 h2;by_cases hz:gf.2.2.size=0
  ·have hr':Hid (zbi (rdT m) (fs.zip vs) gf=none):=by show _=_;rw[hP,if_pos hz]
   have hze:gf.2.2=xh:=zfa hz (fun i hi=>by omega);clear hP hz;rw[hze]
   go_enter Tryz.func253,Tryz.ntmps253
   go_wp2_with (first|(go_at_call 284;refine(hpl _).mono ?_;rintro e w1 ⟨rfl,hb1⟩;obtain⟨hc1,hf1⟩:=zap hb1))
   have e6:w1.cell? ⟨w.heap.size,6,none⟩=some (.string xh):=zab hb1 (zam rfl rfl)
   go_region_held3 (fun w'=>w'.cell? ⟨w.heap.size,6,none⟩=some (.string xh)) (go_keep) (fail)
   go_wp2_with fail
   go_ret2
   rw[hr'.out];exact⟨rfl,((hB _).thn hb1).drew⟩
  ·have hr':Hid (zbi (rdT m) (fs.zip vs) gf=some gf.2.2):=by show _=_;rw[hP,if_neg hz]
   clear hP;generalize gf.2.2=E at hr' hz
   go_enter Tryz.func253,Tryz.ntmps253
   go_wp2_with (first|(go_at_call 284;refine(hpl _).mono ?_;rintro e w1 ⟨rfl,hb1⟩;obtain⟨hc1,hf1⟩:=zap hb1))
   have e6:w1.cell? ⟨w.heap.size,6,none⟩=some (.string E):=zab hb1 (zam rfl rfl)
   go_region_held3 (fun w'=>w'.cell? ⟨w.heap.size,6,none⟩=some (.string E)) (go_keep) (fail)
   have hE:E.toList.isEmpty=false:=zxz (by omega)
   go_wp2_with fail
   go_ret2
   rw[hr'.out];refine⟨?_,((hB _).thn hb1).drew⟩;show Ending.returned (.tuple #[.string E,.bool (!E.toList.isEmpty)])=_;rw[hE];rfl
 ·rw[h1]at hpl;obtain⟨p1,p2,p3,q1,q2,q3,hrep,k0,k1,k2,k3,k4,k5,k6⟩:=hcells i f hf;have hpv:=hparts i v hv;have hvk:okV nw f.2.1 v:=hok (f,v) (zs4 hf hv);have hokf:=(hoT f (xm hf)).2;have hvs:(datV nw v).size<=64:=by
   have:=zho (l:=vs.map (datV nw)) (x:=datV nw v) (qn.2 ⟨v,xm hv,rfl⟩);omega
  have hr':Hid (zbi (rdT m) (fs.zip vs) gf=rdT m f.2.1 gf.2.1 v):=by show _=_;unfold zbi;rw[h2]
  have hrd:=fun (W:World) (hb:Below w.heap.size w W)=>IH nw nr f.2.1 gf.2.1 v W p1 q1 p2 p3 q2 q3 bi bf mi di mf df hm hnw hnr (F.1 _ _ hb hT) hokf hog (hrep.keep hb) (hrg.keep hb) hvk hvs hwt;obtain⟨V,hV⟩:∃ V,V=datV nw v:=⟨_,rfl⟩;rw[<- hV]at hpv hrd;have hgl:g<w.heap.size:=zag k0;have hpl2:pb<w.heap.size:=zag hpv;clear hcells hparts hok hoT h1 h2 hV hvs hvk hf hv;cases hy:rdT m f.2.1 gf.2.1 v with
  |none =>
   rw[hy]at hr';rw[hy]at hrd;simp only[dRet]at hrd;clear hy
   go_enter Tryz.func253,Tryz.ntmps253
   go_wp2_with (first|(go_at_call 284;refine(hpl _).mono ?_;rintro e w1 ⟨rfl,hb1⟩;obtain⟨hc1,hf1⟩:=zap hb1))
   have e5:=zej hb1 (zor w gf bi mi di bf mf df);have e7:=zej hb1 ⟨zah _ k1,zah _ k2,zah _ k3,zah _ k4,zah _ k5⟩;have e8:=zab hb1 (zah _ hpv)
   go_region_held3 (fun w'=>(w'.cell? ⟨w.heap.size,1,none⟩=some (.int .i64 gf.2.1.kind)/\w'.cell? ⟨w.heap.size,2,none⟩=some (.string gf.2.1.letters)/\w'.cell? ⟨w.heap.size,3,none⟩=some (.bool gf.2.1.op)/\w'.cell? ⟨w.heap.size,4,none⟩=some (.slice bi mi di)/\w'.cell? ⟨w.heap.size,5,none⟩=some (.slice bf mf df))/\(w'.cell? ⟨g,i*7+1,none⟩=some (.int .i64 f.2.1.kind)/\w'.cell? ⟨g,i*7+2,none⟩=some (.string f.2.1.letters)/\w'.cell? ⟨g,i*7+3,none⟩=some (.bool f.2.1.op)/\w'.cell? ⟨g,i*7+4,none⟩=some (.slice p1 p2 p3)/\w'.cell? ⟨g,i*7+5,none⟩=some (.slice q1 q2 q3))/\w'.cell? ⟨pb,i,none⟩=some (.string V)) (go_keep) (first|(go_at_call 130;refine(hrd _ (by first|exact((hB _).thn hb1).drew|exact(hB _).thn hb1)).mono ?_;rintro e w2 ⟨rfl,hb2⟩;have e5':=zej hb2 e5;have e7':=zej hb2 e7;have e8':=zab hb2 e8))
   go_wp2_with fail
   go_ret2
   rw[hr'.out];exact⟨rfl,((hB _).thn hb1).drew.thn hb2⟩
  |some y =>
   rw[hy]at hr';rw[hy]at hrd;simp only[dRet]at hrd;clear hy
   go_enter Tryz.func253,Tryz.ntmps253
   go_wp2_with (first|(go_at_call 284;refine(hpl _).mono ?_;rintro e w1 ⟨rfl,hb1⟩;obtain⟨hc1,hf1⟩:=zap hb1))
   have e5:=zej hb1 (zor w gf bi mi di bf mf df);have e7:=zej hb1 ⟨zah _ k1,zah _ k2,zah _ k3,zah _ k4,zah _ k5⟩;have e8:=zab hb1 (zah _ hpv)
   go_region_held3 (fun w'=>(w'.cell? ⟨w.heap.size,1,none⟩=some (.int .i64 gf.2.1.kind)/\w'.cell? ⟨w.heap.size,2,none⟩=some (.string gf.2.1.letters)/\w'.cell? ⟨w.heap.size,3,none⟩=some (.bool gf.2.1.op)/\w'.cell? ⟨w.heap.size,4,none⟩=some (.slice bi mi di)/\w'.cell? ⟨w.heap.size,5,none⟩=some (.slice bf mf df))/\(w'.cell? ⟨g,i*7+1,none⟩=some (.int .i64 f.2.1.kind)/\w'.cell? ⟨g,i*7+2,none⟩=some (.string f.2.1.letters)/\w'.cell? ⟨g,i*7+3,none⟩=some (.bool f.2.1.op)/\w'.cell? ⟨g,i*7+4,none⟩=some (.slice p1 p2 p3)/\w'.cell? ⟨g,i*7+5,none⟩=some (.slice q1 q2 q3))/\w'.cell? ⟨pb,i,none⟩=some (.string V)) (go_keep) (first|(go_at_call 130;refine(hrd _ (by first|exact((hB _).thn hb1).drew|exact(hB _).thn hb1)).mono ?_;rintro e w2 ⟨rfl,hb2⟩;have e5':=zej hb2 e5;have e7':=zej hb2 e7;have e8':=zab hb2 e8))
   go_wp2_with fail
   go_ret2
   rw[hr'.out];exact⟨rfl,((hB _).thn hb1).drew.thn hb2⟩
theorem zr7 {α:Type}(c:α->Nat)(K:Nat):∀ (l:List α) (x:α),x∈l->(l.map c).sum<=K->c x<=K
 |y::l,x,h,hk=>by
  simp at hk;rcases List.mem_cons.1 h with rfl|h
  ·omega
  ·exact zr7 c K l x h (by omega)
theorem yaa5 {Tab:World->Prop}(F:zch Tab){m:Nat}(IH:zeo Tab m)(nw nr:Nat)(hm:nw+nr<=m)(hnw:nw<=100)(hnr:nr<=100)(fs gs:List (Nat×Ty×ByteArray))(vs:List Val)(D:ByteArray)(w:World)(af bf:Option Addr)(lf cf mf df:Nat)
  (hlf:lf=fs.length) (hmf:mf=gs.length) (hfl:fs.length<=9000000) (hgl:gs.length<=9000000) (hfn:fs≠[]) (hgn:gs≠[]) (hT:Tab w) (hoT:∀ f∈fs,f.1<256/\okT nw f.2.1) (hoG:∀ f∈gs,f.1<256/\okT nr f.2.1) (hlen:vs.length=fs.length) (hok:∀ p∈fs.zip vs,okV nw p.1.2.1 p.2)
  (hD:D=catB (vs.map (datV nw))) (hDs:D.size<=64) (hr:RepF nw w af fs) (hrg:RepF nr w bf gs) (hwt:(gs.map fun f=>wt m f.2.1+f.2.2.size+4).sum<=20000) :
  Calls Tryz.prog 198 #[.slice af lf cf,.slice bf mf df,.string D] w fun e w'=>e=.returned (dRet (zbj (zbi (rdT m) (fs.zip vs)) gs ⟨#[123]⟩ xh))/\Below w.heap.size w w':=by
 subst hlf hmf;have hfd:=zw4 F hnw fs vs D w af fs.length cf rfl hfl hT hoT hr hlen hok hD hDs;obtain⟨R,hR⟩:∃ R,R=zbj (zbi (rdT m) (fs.zip vs)) gs ⟨#[123]⟩ xh:=⟨_,rfl⟩;rw[<- hR];have HR:Hid (R=zbj (zbi (rdT m) (fs.zip vs)) gs ⟨#[123]⟩ xh):=hR;have hDc:(catB (vs.map (datV nw))).size<=64:=by rw[<- hD];exact hDs
 have hpos:1<=D.size:=by
  have:=zfe (nw+1) ⟨123,xh,false,[],fs⟩ (.rcd vs) (zgr ⟨rfl,hfn,hlen,hok⟩);rw[zeg,<- hD]at this;exact this
 rcases hr with⟨hr,_⟩|⟨g,rfl,hcells⟩
 ·exact absurd hr hfn
 rcases hrg with⟨hrg,_⟩|⟨h,rfl,hcellg⟩
 ·exact absurd hrg hgn
 have hszf:∀ gf∈gs,∀ y,zbi (rdT m) (fs.zip vs) gf=some y->y.size<=(wt m gf.2.1+gf.2.2.size)*D.size:=fun gf _ y hy=>by
  rw[qk];unfold zbi at hy;split at hy
  ·split at hy
   ·cases hy
   ·cases hy;have:=Nat.le_mul_of_pos_right gf.2.2.size hpos;omega
  ·rename_i p hp';have hmm:=zkf hp';have h1:=zfl m nw _ _ _ _ (hok p hmm) hy;have h2:=zho (l:=vs.map (datV nw)) (x:=datV nw p.2) (qn.2 ⟨p.2,(List.of_mem_zip (a:=p.1) (b:=p.2) hmm).2,rfl⟩);rw[<- hD]at h2;have h3:=Nat.mul_le_mul_left (wt m gf.2.1) h2;omega
 clear hR hD hfn hgn
 go_enter Tryz.func198,Tryz.ntmps198
 go_wp2_with (first|(go_at_call 252;refine hfd.mono ?_;rintro e w1 ⟨pb,pc,rfl,hparts,hb1⟩))
 have hT1:Tab w1:=F.1 _ _ hb1 hT;clear hfd
 go_loopw [10,11,26] (fun vd vm vi wr=>∃ (i:Nat) (mk d:ByteArray),i<=gs.length/\vi=.int .i64 i/\vm=.string mk/\vd=.string d/\mk.size=1/\Hid (R=zbj (zbi (rdT m) (fs.zip vs)) (gs.drop i) mk d)/\Hid (d.size+((gs.drop i).map fun f=>(wt m f.2.1+f.2.2.size+4)*D.size).sum<=20000*D.size)/\Below w1.heap.size w1 wr) (fun _ _ i _=>gs.length-(intOf i).toNat)
 case atStart =>
  refine⟨0,⟨#[123]⟩,xh,qj _,rfl,rfl,rfl,rfl,HR,?_,Below.refl _ _⟩;show _<=_;rw[List.drop_zero,zks (fun f:Nat×Ty×ByteArray=>wt m f.2.1+f.2.2.size+4),show ByteArray.empty.size=0 from rfl,Nat.zero_add];exact Nat.mul_le_mul_right _ hwt
 case round =>
  obtain⟨i,mk,d,hi,rfl,rfl,rfl,hmk,hR,hd,hb⟩:=hrel;have hbw:Below w.heap.size w wr:=hb1.thn hb;have hTw:Tab wr:=F.1 _ _ hb hT1;have one1:(⟨#[125]⟩:ByteArray).size=1:=rfl;have one2:(⟨#[58]⟩:ByteArray).size=1:=rfl;have hK:20000*D.size<=1280000:=by omega
  have hds:d.size<=1280000:=by have:=hd.out;omega
  by_cases hlt:i<gs.length
  ·obtain⟨gf,hf⟩:∃ f,gs[i]?=some f:=⟨gs[i],xe hlt⟩;have hdrop:gs.drop i=gf::gs.drop (i+1):=by
    rw[xz hlt];rw[xe hlt]at hf;simp at hf;rw[hf]
   have hmem:=xm hf;obtain⟨hf256,hokf⟩:=hoG gf hmem;obtain⟨p1,p2,p3,q1,q2,q3,hrep,k0,k1,k2,k3,k4,k5,k6⟩:=hcellg i gf hf;have k0:=zab hbw k0;have k1:=zab hbw k1;have k2:=zab hbw k2;have k3:=zab hbw k3;have k4:=zab hbw k4;have k5:=zab hbw k5;have k6:=zab hbw k6;have hg':h<wr.heap.size:=zag k0;have hrepw:=hrep.keep hbw;have hBa:∀ o,Below wr.heap.size wr (wr.alloc o):=fun o=>(Below.refl _ _).alloc (xj _) _;have hwf:wt m gf.2.1<=20000:=by
    have:=zr7 (fun f:Nat×Ty×ByteArray=>wt m f.2.1+f.2.2.size+4) 20000 gs gf hmem hwt;omega
   have hfc:=fun o=>yaa1 F IH nw nr hm hnw hnr fs vs gf (wr.alloc o) g cf pb pc p1 q1 p2 p3 q2 q3 hfl (F.1 _ _ (hBa o) hTw) hoT hlen hok hDc
    (fun j f hj=>by
     obtain⟨a1,a2,a3,b1,b2,b3,c0,c1,c2,c3,c4,c5,c6,c7⟩:=hcells j f hj;have hq:=hbw.thn (hBa o);exact⟨a1,a2,a3,b1,b2,b3,c0.keep hq,zab hq c1,zab hq c2,zab hq c3,zab hq c4,zab hq c5,zab hq c6,zab hq c7⟩)
    (fun j v hj=>zab (hb.thn (hBa o)) (hparts j v hj)) hokf (hrepw.keep (hBa o)) hwf
   cases hy:zbi (rdT m) (fs.zip vs) gf with
   |none =>
    have hr':Hid (R=none):=by show _=_;rw[hR.out,hdrop,zbj,hy]
    rw[hy]at hfc;simp only[dRet]at hfc;clear hy hdrop hcells hcellg hparts hok hoT hoG hszf
    go_wp2_with (first|(go_at_call 253;refine(hfc _).mono ?_;rintro e w2 ⟨rfl,hb2⟩))
    go_ret2
    rw[hr'.out];exact⟨rfl,(hbw.thn (hBa _)).thn hb2⟩
   |some x =>
    have hxs:=hszf gf hmem x hy;have hso:(oneB gf.1).size=1:=rfl;have hz1:(mk++oneB gf.1).size=2:=by rw[xf,hmk,hso]
    have hz2:(mk++oneB gf.1++⟨#[58]⟩).size=3:=by rw[xf,hz1,one2]
    have hz3:(mk++oneB gf.1++⟨#[58]⟩++x).size=3+x.size:=by rw[xf,hz2]
    have hsum:d.size+3+x.size+((gs.drop (i+1)).map fun f=>(wt m f.2.1+f.2.2.size+4)*D.size).sum<=20000*D.size:=by
     have h1:=hd.out;rw[hdrop,qg,List.sum_cons,qk]at h1;omega
    have HS:Hid ((d++(mk++oneB gf.1++⟨#[58]⟩++x)).size+((gs.drop (i+1)).map fun f=>(wt m f.2.1+f.2.2.size+4)*D.size).sum<=20000*D.size):=by
     show _<=_;rw[xf,hz3];omega
    have hs1:x.size<=1280000:=by omega
    have hr':Hid (R=zbj (zbi (rdT m) (fs.zip vs)) (gs.drop (i+1)) ⟨#[44]⟩ (d++(mk++oneB gf.1++⟨#[58]⟩++x))):=by show _=_;rw[hR.out,hdrop,zbj,hy]
    rw[hy]at hfc;simp only[dRet]at hfc;clear hy hdrop hcells hcellg hparts hok hoT hoG hszf hxs hsum
    go_wp2_with (first|(go_at_call 253;refine(hfc _).mono ?_;rintro e w2 ⟨rfl,hb2⟩;obtain⟨hc1,hf1⟩:=zap hb2)|(go_at_call 251;refine(zdp gf.1 _ (by omega)).mono ?_;rintro e w3 ⟨rfl,hb3⟩))
    go_roundw
    case rel=>exact⟨i+1,⟨#[44]⟩,d++(mk++oneB gf.1++⟨#[58]⟩++x),by omega,by go_num,rfl,rfl,rfl,hr',HS,((hb.thn (hBa _)).thn hb2).thn hb3⟩
    case measure=>simp[intOf];omega
  ·have hnil:gs.drop i=[]:=List.drop_of_length_le (by omega);have hr':Hid (R=some (d++⟨#[125]⟩)):=by show _=_;rw[hR.out,hnil,zbj]
   go_wp2_with fail
   go_ret2
   rw[hr'.out];exact⟨rfl,hbw⟩
end Go.Proofs.YtkkekopomiehlabGreatDoor
