import Derived.Test.YtkkekopomiehlabGreatDoorCPy19
set_option linter.unusedVariables false
set_option linter.unusedSimpArgs false
set_option maxHeartbeats 40000000
open List renaming getElem?_map->xe,getD_eq_getElem?_getD->xh,filter_filter->xj,getElem?_eq_getElem->xo,ext_getElem?->xq
open Bool renaming not_eq_true->xf,and_eq_true->xp
open Iff renaming rfl->xg
open Int renaming le_refl->xm,toNat->xv
open Nat renaming le_refl->xu
open ByteArray renaming empty->xy
open Go.RowKit
set_option maxRecDepth 4000
namespace Go.RowKit
theorem Below.thn {w W w1:World}(h:Below w.heap.size w W)(k:Below W.heap.size W w1):Below w.heap.size w w1:=h.trans (k.mono h.size)
end Go.RowKit
namespace Go.Proofs.YtkkekopomiehlabGreatDoor
section
def itD:Nat->zad->zad
 |0,P=>P
 |n+1,P=>delP (itD n P) 0
theorem zou (n:Nat)(P:zad):itD (n+1) P=itD n (delP P 0):=by
 induction n with
 |zero=>rfl
 |succ n ih=>show delP (itD (n+1) P) 0=delP (itD n (delP P 0)) 0;rw[ih]
theorem znr:∀ (n j:Nat) (P:zad),j<=n->(∀ i,i<j->(itD i P).ms≠[])->dlvN n P=dlvN (n-j) (itD j P)
 |n,0,P,_,_=>rfl
 |0,j+1,P,h,_=>by omega
 |n+1,j+1,P,h,hne=>by
  have h0:P.ms≠[]:=hne 0 (by omega);rw[dlvN,if_neg h0,znr n j (delP P 0) (by omega) (fun i hi=>by rw[<- zou];exact hne (i+1) (by omega)),zou]
  congr 1
  omega
theorem zov {X:WayD}{W:Nat->Int->Int->RecD->Prop}{P:zad}{N:Int}(hi:PInv X W P)(he:Ext P)(hb:Bnd N P):∀ n,PInv X W (itD n P)/\Ext (itD n P)/\Bnd N (itD n P)
 |0=>⟨hi,he,hb⟩
 |n+1=>by
  obtain⟨a,b,c⟩:=zov hi he hb n;exact⟨a.del 0,b.del 0,c.del 0⟩
variable {w0 w W:World}{L:Nat->Nat}{gb r:Nat}{b:zaw}
theorem BookE.tick (h:BookE w0 w L gb r b)(hz:w0.heap.size<=gb)(x:Int):BookE w0 (w.setCell ⟨gb,6,none⟩ (.int .i64 x)) L gb r { b with ti:=x }:=by
 obtain⟨sa,ta,va,ma,sl,sc,tl,tc,vl,vc,mc,nv,h⟩:=h;have hc:=(Chg.refl (·= gb) w).set (p:=⟨gb,6,none⟩) (.inl rfl) (.int .i64 x);obtain⟨gt,tc',m,gv,vc',t,s,sv,tv,hr⟩:=h.run;refine⟨sa,ta,va,ma,sl,sc,tl,tc,vl,vc,mc,nv,h.row.set 6 _,h.lb,⟨gt,tc',m,gv,vc',t,s,sv,tv,hr.out hc (fun k hk=>by rw[hk];exact h.lb)⟩,h.low,h.bel.setCell (p:=⟨gb,6,none⟩) hz _,h.flt,h.mvs,hc.own h.nts (fun k hk e=>(h.ln k hk).2 e),h.ln⟩
theorem BookE.x (h:BookE w0 w L gb r b):w.cell? ⟨gb,5,none⟩=some (.pointer (some ⟨r,0,none⟩))/\w.cell? ⟨gb,6,none⟩=some (.int .i64 b.ti)/\w.frozen? ⟨gb,6,none⟩=false/\RunE w L r b.P:=by
 obtain⟨sa,ta,va,ma,sl,sc,tl,tc,vl,vc,mc,nv,h⟩:=h;exact⟨h.row.cell rfl,h.row.cell rfl,h.row.frozen 6,h.run⟩
theorem zz2 {X:WayD}{WW:Nat->Int->Int->RecD->Prop}{N:Int}(hi:PInv X WW b.P)(he:Ext b.P)(hb:Bnd N b.P)(hN:N<=3000000000)(hbt:0<=b.ti/\b.ti<=3000000000)(hz:w0.heap.size<=gb)(h:BookE w0 w L gb r b):Calls Tryz.prog 29 #[.pointer (some ⟨gb,0,none⟩)] w fun e W=>e=.returned (.bool true)/\∃ L',BookE w0 W L' gb r { b with P:=quiP b.P,ti:=b.ti+1 }:=by
 have hall:=fun n=>zov hi he hb n;have hem:=zvs he.l40;obtain⟨k5,_,_,hrun⟩:=h.x;have c1:=zgr he.l40 hrun;have HALL:=zaa hall;have HEM:=zaa hem;have H:=zaa h;clear h hrun hall hem hi he hb;obtain⟨Q,hQ⟩:∃ Q:World->Prop,Q=fun W=>∃ L',BookE w0 W L' gb r { b with P:=quiP b.P,ti:=b.ti+1 }:=⟨_,rfl⟩;show Calls _ _ _ _ fun e W=>e=.returned (.bool true)/\(fun W=>∃ L',BookE w0 W L' gb r { b with P:=quiP b.P,ti:=b.ti+1 }) W;rw[<- hQ];have HQ:Hid (∀ W L',BookE w0 W L' gb r { b with P:=quiP b.P,ti:=b.ti+1 }->Q W):=by
  show ∀ _,_;rw[hQ];exact fun W L' h=>⟨L',h⟩
 clear hQ;obtain⟨n0,hn0⟩:∃ n0,n0=b.P.ms.length:=⟨_,rfl⟩;rw[<- hn0]at c1;have HN0:=zaa hn0;clear hn0
 go_enter Tryz.func29,Tryz.ntmps29
 go_wp2_with (first|(go_at_call 53;refine c1.mono ?_;rintro e w1 ⟨v,rfl,ho,hb1⟩;obtain⟨ad,cp,rfl⟩:∃ ad cp,v=.slice ad n0 cp:=(by rcases ho.2 with⟨q1,q2⟩|⟨g,cp,cur,q1,_⟩;exact⟨none,0,by rw[q1,q2]⟩;exact⟨_,cp,q1⟩);clear ho))
 go_loopw [3,4] (fun vl vi wr=>∃ (j:Nat) (L':Nat->Nat) (ad:Option Addr) (n cp:Nat),j<=80/\vi=.int .i64 j/\vl=.slice ad n cp/\Hid (n=(itD j b.P).ms.length)/\BookE w0 wr L' gb r { b with P:=itD j b.P }/\Hid (∀ i,i<j->(itD i b.P).ms≠[])) (fun _ i _=>80-(intOf i).toNat)
 case atStart=>exact⟨0,L,_,_,_,Nat.zero_le _,rfl,rfl,HN0,H.out.keep hb1,(fun i hi=>by omega)⟩
 case round =>
  obtain⟨j,L',ad',n,cp',hj,rfl,rfl,hn,hB,hne⟩:=hrel
  rename World=>w5
  have HB:=zaa hB;obtain⟨e5,e6,f6,hr5⟩:=hB.x;obtain⟨i1,i2,i3⟩:=HALL.out j;have hx0 := znn j;by_cases hgo:j<80/\0<n
  ·obtain⟨g1,g2⟩:=hgo;have hk:numB 0 ((itD j b.P).ms.length:Int)=true:=by unfold numB;simp;have:=hn.out;omega
   have c2:=(zlt 0 (zo3 i1 i2 i3 hN) hr5).mono fun e W q=>(⟨by rw[q.1,if_pos hk],hB.turn q.2⟩:e=Ending.returned (.int .i64 0)/\∃ L2,BookE w0 W L2 gb r { b with P:=itD (j+1) b.P });have c3:=fun (W:World) (L2:Nat->Nat) (h:BookE w0 W L2 gb r { b with P:=itD (j+1) b.P })=>zgr (P:=itD (j+1) b.P) (HALL.out (j+1)).2.1.l40 h.x.2.2.2;have hx1:(j:Int)<80:=by omega
   have hx2:(0:Int)<(n:Int):=by omega
   have HNE:Hid (∀ i,i<j+1->(itD i b.P).ms≠[]):=fun i hi=>by
    by_cases e:i=j
    ·subst e;intro q;rw[q]at hn;have:=hn.out;simp at this;omega
    ·exact hne.out i (by omega)
   clear hB hr5 i1 i2 i3 hk;obtain⟨n2,hn2⟩:∃ n2,n2=(itD (j+1) b.P).ms.length:=⟨_,rfl⟩;rw[<- hn2]at c3;have HN2:=zaa hn2;clear hn2
   go_wp2_with (first
    |(go_at_call 57;refine c2.mono ?_;rintro e w6 ⟨rfl,L2,hB6⟩;have HB6:=zaa hB6;have x5:=hB6.x.1;clear hB6)
    |(go_at_call 53;refine(c3 _ _ HB6.out).mono ?_;rintro e w7 ⟨v,rfl,ho,hb7⟩;obtain⟨ad2,cp2,rfl⟩:∃ ad cp,v=.slice ad n2 cp:=(by rcases ho.2 with⟨q1,q2⟩|⟨g,cp,cur,q1,_⟩;exact⟨none,0,by rw[q1,q2]⟩;exact⟨_,cp,q1⟩);clear ho))
   go_roundw
   case rel=>exact⟨j+1,L2,_,_,_,by omega,by go_num,rfl,HN2,HB6.out.keep hb7,HNE⟩
   case measure=>simp[intOf];omega
  ·have hD:dlvN 80 b.P=itD j b.P:=by
    rw[znr 80 j b.P hj hne.out];by_cases e:j=80
    ·subst e;rfl
    ·have:(itD j b.P).ms=[]:=List.eq_nil_of_length_eq_zero (by have:=hn.out;omega);exact zvt this _
   have hn0:n=0:=by
    have:=HEM.out;rw[hD]at this;rw[hn.out,this];rfl
   subst hn0;have c4:=(zkz (zlk i1 i3 hN) hr5).mono fun e W q=>(⟨q.1,hB.turn q.2⟩:e=Ending.returned (.tuple #[])/\∃ L2,BookE w0 W L2 gb r { b with P:=tckP (itD j b.P) });have HP:Hid (quiP b.P=tckP (itD j b.P)):=by show _=_;unfold quiP;rw[hD]
   clear hB hr5 i1 i2 i3 hgo hD;by_cases hj80:j<80
   ·have hx1:(j:Int)<80:=by omega
    go_wp2_with (first
     |(go_at_call 55;refine c4.mono ?_;rintro e w6 ⟨rfl,L2,hB6⟩;have HB6:=zaa hB6;obtain⟨x5,x6,y6,_⟩:=hB6.x;clear hB6))
    go_ret;exact⟨rfl,HQ.out _ L2 (by rw[HP.out];exact HB6.out.tick hz (b.ti+1))⟩
   ·obtain rfl:j=80:=by omega
    go_wp2_with (first
     |(go_at_call 55;refine c4.mono ?_;rintro e w6 ⟨rfl,L2,hB6⟩;have HB6:=zaa hB6;obtain⟨x5,x6,y6,_⟩:=hB6.x;clear hB6))
    go_ret;exact⟨rfl,HQ.out _ L2 (by rw[HP.out];exact HB6.out.tick hz (b.ti+1))⟩
end
section
variable {w0 w W:World}{L:Nat->Nat}{gb r:Nat}{b:zaw}
theorem BookE.abt (h:BookE w0 w L gb r b)(hz:w0.heap.size<=gb)(x:Bool):BookE w0 (w.setCell ⟨gb,8,none⟩ (.bool x)) L gb r { b with ab:=x }:=by
 obtain⟨sa,ta,va,ma,sl,sc,tl,tc,vl,vc,mc,nv,h⟩:=h;have hc:=(Chg.refl (·= gb) w).set (p:=⟨gb,8,none⟩) (.inl rfl) (.bool x);obtain⟨gt,tc',m,gv,vc',t,s,sv,tv,hr⟩:=h.run;refine⟨sa,ta,va,ma,sl,sc,tl,tc,vl,vc,mc,nv,h.row.set 8 _,h.lb,⟨gt,tc',m,gv,vc',t,s,sv,tv,hr.out hc (fun k hk=>by rw[hk];exact h.lb)⟩,h.low,h.bel.setCell (p:=⟨gb,8,none⟩) hz _,h.flt,h.mvs,hc.own h.nts (fun k hk e=>(h.ln k hk).2 e),h.ln⟩
theorem BookE.y (h:BookE w0 w L gb r b):w.cell? ⟨gb,5,none⟩=some (.pointer (some ⟨r,0,none⟩))/\w.cell? ⟨gb,8,none⟩=some (.bool b.ab)/\w.frozen? ⟨gb,8,none⟩=false/\gb<w.heap.size:=by
 obtain⟨sa,ta,va,ma,sl,sc,tl,tc,vl,vc,mc,nv,h⟩:=h;exact⟨h.row.cell rfl,h.row.cell rfl,h.row.frozen 8,h.row.lt⟩
theorem yadr (c:CtlD):(zc8 c).st=2\/(zc8 c).st=4:=by
 unfold zc8 zau zbx zcz begC;cases c.wk<;>simp<;>split<;>simp
theorem zmb {X:WayD}{WW:Nat->Int->Int->RecD->Prop}{P:zad}{a:Bool}(hi:PInv X WW P)(ha:a=true↔P.c.st=2\/P.c.st=4):(abtE P=0/\a=false/\((abtP P).c.st=2\/(abtP P).c.st=4))\/(abtE P=18/\a=true/\(abtP P).c.st=2)\/(abtE P=17/\a=true/\(abtP P).c.st=4)\/(abtE P=17/\a=false/\(abtP P).c.st=3):=by
 have hs:=hi.sh.st;have hov:zar P.c=true↔P.c.st=3\/P.c.st=4:=by unfold zar;simp
 unfold abtE abtP;rcases hs with⟨q,_⟩|⟨q,_⟩|⟨q,_⟩|⟨q,_⟩
 ·have:zar P.c=false:=by rw[<- xf,hov,q];omega
  have ha':a=false:=by rw[<- xf,ha,q];omega
  rw[this,ha',q];simp;exact yadr _
 ·have:zar P.c=false:=by rw[<- xf,hov,q];omega
  rw[this,ha.2 (.inl q),q];simp[q]
 ·rw[hov.2 (.inl q)];have ha':a=false:=by rw[<- xf,ha,q];omega
  simp[ha',q]
 ·rw[hov.2 (.inr q),ha.2 (.inr q)];simp[q]
theorem ztm {P':zad}{ab':Bool}(E st:Int)(hst:P'.c.st=st)(hE:(E=0/\b.ab=false/\ab'=true/\(st=2\/st=4))\/(E=18/\b.ab=true/\ab'=true/\st=2)\/(E=17/\b.ab=true/\ab'=true/\st=4)\/(E=17/\b.ab=false/\ab'=false/\st=3))(hz:w0.heap.size<=gb)(c1:Calls Tryz.prog 31 #[.pointer (some ⟨r,0,none⟩)] w fun e W=>e=.returned (.int .i64 E)/\∃ L',BookE w0 W L' gb r { b with P:=P' })(h:BookE w0 w L gb r b):Calls Tryz.prog 61 #[.pointer (some ⟨gb,0,none⟩)] w fun e W=>e=.returned (.bool true)/\∃ L',BookE w0 W L' gb r { b with P:=P',ab:=ab' }:=by
 have c2:=fun (W:World) L' (h:BookE w0 W L' gb r { b with P:=P' })=>zl6 h.x.2.2.2;simp only[hst]at c2;obtain⟨ba,hba⟩:∃ ba,ba=b.ab:=⟨_,rfl⟩;obtain⟨k5,k8,f8,glt⟩:=h.y;obtain⟨Q,hQ⟩:∃ Q:World->Prop,Q=fun W=>∃ L',BookE w0 W L' gb r { b with P:=P',ab:=ab' }:=⟨_,rfl⟩;show Calls _ _ _ _ fun e W=>e=.returned (.bool true)/\(fun W=>∃ L',BookE w0 W L' gb r { b with P:=P',ab:=ab' }) W;rw[<- hQ];have HQ:Hid (∀ W L',BookE w0 W L' gb r { b with P:=P',ab:=ab' }->Q W):=by
  show ∀ _,_;rw[hQ];exact fun W L' h=>⟨L',h⟩
 rw[<- hba]at hE k8;have HBA:=zaa hba;clear hQ hba hst h;generalize P'.c.pos=u1 at *;generalize P'.ti=u2 at *;generalize P'.c.nu=u3 at *;generalize P'.c.wk=u4 at *;generalize P'.c.pa=u5 at *;rcases hE with⟨rfl,rfl,rfl,rfl|rfl⟩|⟨rfl,rfl,rfl,rfl⟩|⟨rfl,rfl,rfl,rfl⟩|⟨rfl,rfl,rfl,rfl⟩
 iterate 2
  ·go_enter Tryz.func61,Tryz.ntmps61
   go_wp2_with (first
    |(go_at_call 31;refine c1.mono ?_;rintro e w1 ⟨rfl,L2,hB1⟩;have HB1:=zaa hB1;obtain⟨x5,x8,y8,xl⟩:=hB1.y;rw[<- HBA.out]at x8;clear hB1)
    |(go_at_call 36;refine(c2 _ _ HB1.out).mono ?_;rintro e w2 ⟨rfl,hb2⟩;have HB2:=zaa (HB1.out.keep hb2);obtain⟨z5,z8,v8,zl⟩:=HB2.out.y;rw[<- HBA.out]at z8))
   go_ret;exact⟨rfl,HQ.out _ _ ((HB2.out.abt hz true).keep (bel1 _ _))⟩
 iterate 3
  ·go_enter Tryz.func61,Tryz.ntmps61
   go_wp2_with (first
    |(go_at_call 31;refine c1.mono ?_;rintro e w1 ⟨rfl,L2,hB1⟩;have HB1:=zaa hB1;obtain⟨x5,x8,y8,xl⟩:=hB1.y;rw[<- HBA.out]at x8;clear hB1)
    |(go_at_call 36;refine(c2 _ _ HB1.out).mono ?_;rintro e w2 ⟨rfl,hb2⟩;have HB2:=zaa (HB1.out.keep hb2);obtain⟨z5,z8,v8,zl⟩:=HB2.out.y;rw[<- HBA.out]at z8))
   go_ret;exact⟨rfl,HQ.out _ L2 (by have q:=HB2.out;rw[<- HBA.out]at q;exact q.keep (bel1 _ _))⟩
def abtB (b:zaw):zaw:={ b with P:=abtP b.P,ab:=b.ab||decide (abtE b.P=0) }
theorem zt3 {X:WayD}{WW:Nat->Int->Int->RecD->Prop}(hi:PInv X WW b.P)(hb:0<=b.P.c.pos/\b.P.c.pos<=4000000000)(ha:b.ab=true↔b.P.c.st=2\/b.P.c.st=4)(hz:w0.heap.size<=gb)(h:BookE w0 w L gb r b):Calls Tryz.prog 61 #[.pointer (some ⟨gb,0,none⟩)] w fun e W=>e=.returned (.bool true)/\∃ L',BookE w0 W L' gb r (abtB b):=by
 have c1:=(zso hb h.x.2.2.2).mono fun e W q=>(⟨q.1,h.turn q.2⟩:e=Ending.returned (.int .i64 (abtE b.P))/\∃ L2,BookE w0 W L2 gb r { b with P:=abtP b.P });refine ztm (abtE b.P) (abtP b.P).c.st rfl ?_ hz c1 h;rcases zmb hi ha with⟨q1,q2,q3⟩|⟨q1,q2,q3⟩|⟨q1,q2,q3⟩|⟨q1,q2,q3⟩
 ·exact .inl ⟨q1,q2,by rw[q1];simp,q3⟩
 ·exact .inr (.inl ⟨q1,q2,by rw[q2];rfl,q3⟩)
 ·exact .inr (.inr (.inl ⟨q1,q2,by rw[q2];rfl,q3⟩))
 ·exact .inr (.inr (.inr ⟨q1,q2,by rw[q1,q2];rfl,q3⟩))
end
structure Sme (P Q:zad):Prop where
 ss:Q.ss=P.ss
 rl:Q.vs.map SrvD.rels=P.vs.map SrvD.rels
 sz:Q.vs.map (fun V=>V.ins.length)=P.vs.map (fun V=>V.ins.length)
 kp:Q.ts.map TopD.keep=P.ts.map TopD.keep
theorem Sme.refl (P:zad):Sme P P:=⟨rfl,rfl,rfl,rfl⟩
theorem Sme.trans {P Q R:zad}(h:Sme P Q)(k:Sme Q R):Sme P R:=⟨k.ss.trans h.ss,k.rl.trans h.rl,k.sz.trans h.sz,k.kp.trans h.kp⟩
theorem zrc {α β:Type}(f:α->β)(l:List α)(i:Nat)(y:α)(h:∀ x,l[i]?=some x->f y=f x):(l.set i y).map f=l.map f:=by
 apply xq;intro j;rw[xe,xe,List.getElem?_set];by_cases e:i=j
 ·subst e;rw[if_pos rfl];split
  ·rename_i hl;rw[xo hl];simp[h _ (xo hl)]
  ·rename_i hl;rw[List.getElem?_eq_none (by omega)]
 ·rw[if_neg e]
theorem zol (vs:List SrvD)(m:MsgD):(folV vs m).map SrvD.rels=vs.map SrvD.rels/\(folV vs m).map (fun V=>V.ins.length)=vs.map (fun V=>V.ins.length):=by
 unfold folV;split
 ·unfold setI;refine⟨zrc _ _ _ _ fun x hx=>?_,zrc _ _ _ _ fun x hx=>?_⟩
  ·rw[xh,hx];rfl
  ·rw[xh,hx];show (x.ins.set _ _).length=_;rw[List.length_set]
 ·exact⟨rfl,rfl⟩
theorem Sme.del (P:zad)(k:Int):Sme P (delP P k):=by
 unfold delP;split
 ·unfold arrP;split
  ·exact⟨rfl,rfl,rfl,rfl⟩
  ·split
   ·exact⟨rfl,(zol _ _).1,(zol _ _).2,rfl⟩
   ·exact⟨rfl,rfl,rfl,rfl⟩
 ·exact Sme.refl P
theorem Sme.drp (P:zad)(k:Int):Sme P (drpP P k):=by
 unfold drpP;split<;>exact⟨rfl,rfl,rfl,rfl⟩
theorem Sme.cpy (P:zad)(k:Int):Sme P (cpyP P k):=by
 unfold cpyP;split<;>exact⟨rfl,rfl,rfl,rfl⟩
theorem zwa (ti:Int)(ts:List TopD):(ts.map (fgtT ti)).map TopD.keep=ts.map TopD.keep:=by
 rw[List.map_map]
 congr 1
 funext T;show (fgtT ti T).keep=T.keep;unfold fgtT;split<;>rfl
theorem Sme.tck (P:zad):Sme P (tckP P):=⟨rfl,rfl,rfl,zwa _ _⟩
theorem Sme.wrt (P:zad)(t:Nat)(sc da:ByteArray):Sme P (wrtP P t sc da):=by
 refine⟨rfl,rfl,rfl,?_⟩;show (P.ts.modify t _).map TopD.keep=_;apply xq;intro j;rw[xe,xe,List.getElem?_modify];cases P.ts[j]? with
 |none=>rfl
 |some T=>simp;split<;>rfl
def bckP (c:CtlD):Prop:=c.st=2\/c.st=4
theorem zua (c:CtlD):bckP (zau c)↔bckP c:=by
 unfold bckP zau zcz zbx;by_cases h1:c.st=1/\(c.ts.length:Int)<=c.pos
 ·rw[if_pos h1,if_neg (by simp)];simp;omega
 ·rw[if_neg h1];by_cases h2:c.st=2/\c.pos<=0
  ·rw[if_pos h2];simp;omega
  ·rw[if_neg h2]
theorem zt9 (c:CtlD)(m:MsgD)(ti:Int):bckP (zbg c m ti)↔bckP c:=by
 unfold zbg;split
 ·split
  ·unfold finC;rw[zua];exact xg
  ·exact xg
 ·exact xg
theorem zt7 (P:zad)(k:Int):bckP (delP P k).c↔bckP P.c:=by
 unfold delP;split
 ·unfold arrP;split
  ·exact zt9 _ _ _
  ·split<;>exact xg
 ·exact xg
theorem zt4 (c:CtlD)(ti:Int):bckP (actC c ti)↔bckP c:=by
 have h1:(actA c ti).st=c.st:=by unfold actA;split<;>rfl
 unfold actC bckP;split
 ·exact xg
 ·split
  ·unfold cmdC;split
   ·show (actA c ti).st=2\/(actA c ti).st=4↔_;rw[h1]
   ·rw[h1]
  ·rw[h1]
theorem zt6 (P:zad):bckP (crsP P).c↔bckP P.c:=by
 show bckP (crsC P.c P.ti)↔_;unfold crsC;split
 ·exact xg
 ·split<;>exact xg
theorem zt8 (P:zad)(k:Int):bckP (drpP P k).c↔bckP P.c:=by unfold drpP;split<;>exact xg
theorem zt5 (P:zad)(k:Int):bckP (cpyP P k).c↔bckP P.c:=by unfold cpyP;split<;>exact xg
def zcv (ss:List ByteArray)(x:zdi):RecD:=⟨schO ss x.by',x.da,x.ti⟩
def zay (keep ti:Int)(x:zdi):Bool:=decide (keep=0)||decide (ti-x.ti<keep)
structure Inv (N:Int)(b:zaw):Prop where
 sf:Sfe b.f b.ms
 pi:PInv (zcq b.f b.ms) (Wrt b.f) b.P
 ex:Ext b.P
 bn:Bnd N b.P
 ti:b.ti=b.P.ti
 sm:Sme (begP b.f b.ms) b.P
 ab:b.ab=true↔bckP b.P.c
 nn:(b.notes.length:Int)<=N
 nt:b.tale=true->∀ T,b.P.ts[0]?=some T->T.recs=(b.notes.filter (zay T.keep b.ti)).map (zcv b.f.ss)/\∀ x∈b.notes,(0<=x.ti/\x.ti<=b.ti)/\numB x.by' b.f.ss.length=true
theorem Inv.run {N:Int}{b:zaw}(h:Inv N b){Q:zad}(h1:PInv (zcq b.f b.ms) (Wrt b.f) Q)(h2:Ext Q)(h3:Bnd N Q)(h4:Sme b.P Q)(h5:bckP Q.c↔bckP b.P.c)(h6:Q.ti=b.P.ti)(h7:Q.ts=b.P.ts):Inv N { b with P:=Q } :=
 ⟨h.sf,h1,h2,h3,h.ti.trans h6.symm,h.sm.trans h4,h.ab.trans h5.symm,h.nn,fun ht T hT=>h.nt ht T (by rw[<- h7];exact hT)⟩
theorem Inv.del {N:Int}{b:zaw}(h:Inv N b)(k:Int):Inv N { b with P:=delP b.P k } :=
 h.run (h.pi.del k) (h.ex.del k) (h.bn.del k) (Sme.del _ _) (zt7 _ _) (zj0 _ _).1 (zj0 _ _).2.2.2.1
theorem Inv.drp {N:Int}{b:zaw}(h:Inv N b)(k:Int):Inv N { b with P:=drpP b.P k } :=
 h.run (h.pi.drp k) (h.ex.drp k) (h.bn.drp k) (Sme.drp _ _) (zt8 _ _) (by unfold drpP;split<;>rfl) (by unfold drpP;split<;>rfl)
theorem Inv.cpy {N:Int}{b:zaw}(h:Inv N b)(k:Int):Inv N { b with P:=cpyP b.P k } :=
 h.run (h.pi.cpy k) (h.ex.cpy k) (h.bn.cpy k) (Sme.cpy _ _) (zt5 _ _) (by unfold cpyP;split<;>rfl) (by unfold cpyP;split<;>rfl)
theorem Inv.crs {N:Int}{b:zaw}(h:Inv N b):Inv N { b with P:=crsP b.P } :=
 h.run h.pi.crs (h.ex.crs h.pi) h.bn.crs ⟨rfl,rfl,rfl,rfl⟩ (zt6 _) rfl rfl
theorem Inv.pau {N:Int}{b:zaw}(h:Inv N b)(on:Bool):Inv N { b with P:=if zar b.P.c then b.P else pauP b.P on }:=by
 split
 ·exact h
 ·exact h.run (h.pi.pau on) (h.ex.pau on) (h.bn.pau on) ⟨rfl,rfl,rfl,rfl⟩ xg rfl rfl
theorem Inv.abt {N:Int}{b:zaw}(h:Inv N b):Inv N (abtB b):=by
 have hc:=zmb h.pi h.ab;have hrun:PInv (zcq b.f b.ms) (Wrt b.f) (abtP b.P)/\Ext (abtP b.P)/\Bnd N (abtP b.P)/\Sme b.P (abtP b.P)/\(abtP b.P).ti=b.P.ti/\(abtP b.P).ts=b.P.ts:=by
  unfold abtP;split
  ·exact⟨h.pi,h.ex,h.bn,Sme.refl _,rfl,rfl⟩
  ·rename_i h1;split
   ·exact⟨h.pi,h.ex,h.bn,Sme.refl _,rfl,rfl⟩
   ·rename_i h2;have h3:b.P.c.st=1:=by
     have:=h.pi.sh.st;unfold zar at h1;simp at h1;omega
    exact⟨h.pi.trn h3,h.ex.trn h.pi h3,h.bn.trn,⟨rfl,rfl,rfl,rfl⟩,rfl,rfl⟩
 obtain⟨r1,r2,r3,r4,r5,r6⟩:=hrun;refine⟨h.sf,r1,r2,r3,h.ti.trans r5.symm,h.sm.trans r4,?_,h.nn,fun ht T hT=>h.nt ht T (by rw[<- r6];exact hT)⟩;show (b.ab||decide (abtE b.P=0))=true↔bckP (abtP b.P).c;unfold bckP;rcases hc with⟨q1,q2,q3⟩|⟨q1,q2,q3⟩|⟨q1,q2,q3⟩|⟨q1,q2,q3⟩<;>rw[q1,q2]<;>simp<;>omega
theorem zzv {keep ti:Int}{l:List zdi}(h0:0<=keep):(l.filter (zay keep ti)).filter (zay keep (ti+1))=l.filter (zay keep (ti+1)):=by
 rw[xj]
 congr 1
 funext x;unfold zay;by_cases h1:keep=0
 ·simp[h1]
 ·simp[h1];omega
theorem zwb {ss:List ByteArray}{l:List zdi}{T:TopD}{ti:Int}(h0:0<=T.keep)(h:T.recs=(l.filter (zay T.keep ti)).map (zcv ss)):(fgtT (ti+1) T).recs=(l.filter (zay T.keep (ti+1))).map (zcv ss):=by
 unfold fgtT;split
 ·rename_i h1;have h2:T.keep=0:=by omega
  have h3:zay 0 ti=zay 0 (ti+1):=by funext x;simp[zay]
  rw[h,h2,h3]
 ·rename_i h1;show T.recs.filter _=_;rw[h,List.filter_map,<- zzv h0,xj,xj]
  congr 1
  congr 1
  funext x;have h3:T.keep≠0:=by omega
  simp only[zay,Function.comp,zcv];simp[h3];rfl
theorem yac3 {ss:List ByteArray}{l:List zdi}{P:zad}(hk:∀ (t:Nat) (T:TopD),P.ts[t]?=some T->0<=T.keep)(h:∀ T,P.ts[0]?=some T->T.recs=(l.filter (zay T.keep P.ti)).map (zcv ss)):∀ T,(tckP P).ts[0]?=some T->T.recs=(l.filter (zay T.keep (P.ti+1))).map (zcv ss):=fun T hT=>by
 have hT':(P.ts.map (fgtT (P.ti+1)))[0]?=some T:=hT;rw[xe]at hT';cases h0:P.ts[0]? with
 |none=>rw[h0]at hT';cases hT'
 |some T0 =>
  rw[h0]at hT';obtain rfl:fgtT (P.ti+1) T0=T:=by simpa using hT'
  have e:(fgtT (P.ti+1) T0).keep=T0.keep:=by unfold fgtT;split<;>rfl
  rw[e];exact zwb (hk 0 T0 h0) (h T0 h0)
theorem Inv.tck {N:Int}{b:zaw}(h:Inv N b):Inv (N+1) { b with P:=tckP b.P,ti:=b.ti+1 }:=by
 refine⟨h.sf,h.pi.tck,h.ex.tck h.pi,h.bn.tck,?_,h.sm.trans (Sme.tck _),h.ab.trans (zt4 _ _).symm,by have:=h.nn;show (b.notes.length:Int)<=N+1;omega,fun ht T hT=>?_⟩
 ·show b.ti+1=b.P.ti+1;rw[h.ti]
 ·have h1:=h.nt ht;rw[h.ti]at h1;have:=yac3 (ss:=b.f.ss) (l:=b.notes) (P:=b.P) (fun t T hT=>(h.pi.rc.kp t T hT).1) (fun T hT=>(h1 T hT).1) T hT;show T.recs=(b.notes.filter (zay T.keep (b.ti+1))).map (zcv b.f.ss)/\∀ x∈b.notes,(0<=x.ti/\x.ti<=b.ti+1)/\_;rw[h.ti];refine⟨this,fun x hx=>?_⟩;cases h0:b.P.ts[0]? with
  |none =>
   have hT':(b.P.ts.map (fgtT (b.P.ti+1)))[0]?=some T:=hT;rw[xe,h0]at hT';cases hT'
  |some T0 =>
   have:=(h1 T0 h0).2 x hx;exact⟨by omega,this.2⟩
theorem Inv.dlv {N:Int}:∀ (n:Nat) {b:zaw},Inv N b->Inv N { b with P:=dlvN n b.P }
 |0,b,h=>h
 |n+1,b,h=>by
  unfold dlvN;split
  ·exact h
  ·exact(h.del 0).dlv n
theorem Inv.qui {N:Int}{b:zaw}(h:Inv N b):Inv (N+1) { b with P:=quiP b.P,ti:=b.ti+1 }:=(h.dlv 80).tck
theorem Inv.mono {N M:Int}{b:zaw}(h:Inv N b)(hn:N<=M):Inv M b:=⟨h.sf,h.pi,h.ex,h.bn.mono hn,h.ti,h.sm,h.ab,by have:=h.nn;omega,h.nt⟩
theorem zmp {f:zac}{ms:List (Int×Int)}(h:Sfe f ms):Bnd 0 (begP f ms):=by
 have ho:=h.ob;refine⟨⟨xm _,xm _⟩,⟨xm _,xm _⟩,?_,?_,fun i T hT=>?_⟩
 ·show (tskN (lst0 f.vs) ms).length<=200;rw[zg1];exact h.l200
 ·show (f.ts.map _).length<=4;rw[List.length_map];have:zc0 f.ts=true:=by
   unfold ordB at ho;rw[xp,xp]at ho;exact ho.1.2
  unfold zc0 at this;rw[xp]at this;simpa using this.1
 ·have hT':(f.ts.map fun k=>(⟨k,[]⟩:TopD))[i]?=some T:=hT;rw[xe]at hT';cases hk:f.ts[i]? with
  |none=>rw[hk]at hT';cases hT'
  |some k =>
   rw[hk]at hT';obtain rfl:(⟨k,[]⟩:TopD)=T:=by simpa using hT'
   exact⟨by simp,fun x hx=>by cases hx⟩
theorem zub {f:zac}{ms:List (Int×Int)}(h:Sfe f ms)(tale:Bool):Inv 0 ⟨f,ms,tale,begP f ms,0,[],false⟩:=by
 obtain⟨h1,h2⟩:=zjf h (Wrt f);refine⟨h,h1,h2,zmp h,rfl,Sme.refl _,?_,xm _,fun _ T hT=>?_⟩
 ·show false=true↔bckP (begP f ms).c;unfold bckP;show false=true↔(if ms.length=0 then (3:Int) else 1)=2\/(if ms.length=0 then (3:Int) else 1)=4;split<;>simp
 ·have hT':(f.ts.map fun k=>(⟨k,[]⟩:TopD))[0]?=some T:=hT;rw[xe]at hT';cases hk:f.ts[0]? with
  |none=>rw[hk]at hT';cases hT'
  |some k =>
   rw[hk]at hT';obtain rfl:(⟨k,[]⟩:TopD)=T:=by simpa using hT'
   exact⟨rfl,fun x hx=>by cases hx⟩
theorem zxs (ty:Ty)(ai:Option Addr)(li ci:Nat)(af:Option Addr)(lf cf:Nat)(w:World) :
  Calls Tryz.prog 246 #[.agg #[.int .i64 ty.kind,.string ty.letters,.bool ty.op,.slice ai li ci,.slice af lf cf]] w fun e w'=>e=.returned (if ty.kind=63 then .tuple #[.string ⟨#[95]⟩,.bool true] else .tuple #[.string xy,.bool false])/\Below w.heap.size w w':=by
 have hB:∀ o,Below w.heap.size w (w.alloc o):=fun o=>(Below.refl _ _).alloc (xu _) _;by_cases hk:ty.kind=63
 ·have hk':((ty.kind:Int) != 63)=false:=by simp;omega
  rw[if_pos hk];clear hk
  go_enter Tryz.func246,Tryz.ntmps246
  go_wp2_with fail
  go_ret2
  exact⟨rfl,by first|exact hB _|exact Below.refl _ _⟩
 ·have hk':((ty.kind:Int) != 63)=true:=by simp;omega
  rw[if_neg hk];clear hk
  go_enter Tryz.func246,Tryz.ntmps246
  go_wp2_with fail
  go_ret2
  exact⟨rfl,by first|exact hB _|exact Below.refl _ _⟩
theorem BB (w:World)(o o2:Obj):Below w.heap.size w ((w.alloc o).alloc o2):=((Below.refl _ _).alloc (xu _) _).alloc (by simp) _
theorem zz8 (x r:Ty)(ai:Option Addr)(li ci:Nat)(af:Option Addr)(lf cf:Nat)(bi:Option Addr)(mi di:Nat)(bf:Option Addr)(mf df:Nat)(i:Nat)(w:World)(hx8:x.letters.size<=8)(hr8:r.letters.size<=8)(hi:i<x.letters.size) :
  Calls Tryz.prog 196 #[.agg #[.int .i64 x.kind,.string x.letters,.bool x.op,.slice ai li ci,.slice af lf cf],.agg #[.int .i64 r.kind,.string r.letters,.bool r.op,.slice bi mi di,.slice bf mf df],.string (oneB i)] w fun e w'=>e=.returned (dRet (zcx x.letters r.letters r.op i))/\Below w.heap.size w w':=by
 have _hx:x.letters.size<=9000000:=by omega
 have _hr:r.letters.size<=9000000:=by omega
 have hlo:0<=bAt x.letters i:=by rw[zed _ _ hi];omega
 have hhi:=zeq x.letters i;obtain⟨D,hD⟩:∃ D,D=oneB i:=⟨_,rfl⟩;have hDs:D.size<=9000000:=by rw[hD,zaj];omega
 have hb0:bAt D (xv 0)=i:=by rw[hD];exact zcs i (by omega)
 rw[<- hD];obtain⟨c,hc⟩:∃ c,c=bAt x.letters i:=⟨_,rfl⟩;have hb1:bAt x.letters (xv i)=c:=hc.symm;have hC:zcx x.letters r.letters r.op i=if pOf r.letters c<0 then (if r.op=true then some (r.letters.extract 0 1) else none) else some (oneB c.toNat):=by rw[hc];rfl
 rw[<- hc]at hlo hhi;have htk:=fun w=>zrq r bi mi di bf mf df c w hr8;have hfl:=fun w=>zoh r bi mi di bf mf df w hr8;clear hD hc hi;by_cases hp:0<=pOf r.letters c
 ·have hp':¬ pOf r.letters c<0:=by omega
  have hr':Hid (zcx x.letters r.letters r.op i=some (oneB c.toNat)):=by show _=_;rw[hC,if_neg hp']
  rw[show (r.op||decide (0<=pOf r.letters c))=true by simp[hp]]at htk;clear hC
  go_enter Tryz.func196,Tryz.ntmps196
  go_wp2_with (first|(go_at_call 245;refine(zam _ _ _ (by omega) (by first|exact hDs|exact _hx)).mono ?_;rintro e _ ⟨rfl,rfl⟩;first|rw[hb0]|rw[hb1])|(go_at_call 248;refine(htk _).mono ?_;rintro e w1 ⟨rfl,hb1⟩;obtain⟨hc1,hf1⟩:=zao hb1;have hz1:=hb1.size)|(go_at_call 249;refine(zd5 _ _ _ _hr).mono ?_;rintro e _ ⟨rfl,rfl⟩)|(go_at_call 251;refine(zek _ _ hlo (by omega)).mono ?_;rintro e w2 ⟨rfl,hb2⟩))
  go_ret2
  rw[hr'.out];exact⟨rfl,((BB w _ _).thn hb1).thn hb2⟩
 ·have hp':pOf r.letters c<0:=by omega
  cases hop:r.op with
  |true =>
   have hr':Hid (zcx x.letters r.letters true i=some (r.letters.extract 0 1)):=by show _=_;rw[<- hop,hC,if_pos hp',hop];rfl
   rw[hop]at htk hfl;clear hC hp
   go_enter Tryz.func196,Tryz.ntmps196
   go_wp2_with (first|(go_at_call 245;refine(zam _ _ _ (by omega) (by first|exact hDs|exact _hx)).mono ?_;rintro e _ ⟨rfl,rfl⟩;first|rw[hb0]|rw[hb1])|(go_at_call 248;refine(htk _).mono ?_;rintro e w1 ⟨rfl,hb1⟩;obtain⟨hc1,hf1⟩:=zao hb1;have hz1:=hb1.size)|(go_at_call 249;refine(zd5 _ _ _ _hr).mono ?_;rintro e _ ⟨rfl,rfl⟩)|(go_at_call 251;refine(zek _ _ hlo (by omega)).mono ?_;rintro e w2 ⟨rfl,hb2⟩)|(go_at_call 250;refine(hfl _).mono ?_;rintro e w2 ⟨rfl,hb2⟩))
   go_ret2
   rw[hr'.out];exact⟨rfl,((BB w _ _).thn hb1).thn hb2⟩
  |false =>
   have hr':Hid (zcx x.letters r.letters false i=none):=by show _=_;rw[<- hop,hC,if_pos hp',hop];rfl
   rw[hop,show (false||decide (0<=pOf r.letters c))=false by simp;omega]at htk;clear hC hp
   go_enter Tryz.func196,Tryz.ntmps196
   go_wp2_with (first|(go_at_call 245;refine(zam _ _ _ (by omega) (by first|exact hDs|exact _hx)).mono ?_;rintro e _ ⟨rfl,rfl⟩;first|rw[hb0]|rw[hb1])|(go_at_call 248;refine(htk _).mono ?_;rintro e w1 ⟨rfl,hb1⟩;obtain⟨hc1,hf1⟩:=zao hb1;have hz1:=hb1.size)|(go_at_call 249;refine(zd5 _ _ _ _hr).mono ?_;rintro e _ ⟨rfl,rfl⟩)|(go_at_call 251;refine(zek _ _ hlo (by omega)).mono ?_;rintro e w2 ⟨rfl,hb2⟩))
   go_ret2
   rw[hr'.out];exact⟨rfl,(BB w _ _).thn hb1⟩
end Go.Proofs.YtkkekopomiehlabGreatDoor
