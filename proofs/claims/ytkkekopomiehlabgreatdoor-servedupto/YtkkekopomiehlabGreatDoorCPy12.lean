import Derived.Test.YtkkekopomiehlabGreatDoorCPy8
set_option linter.unusedVariables false
set_option linter.unusedSimpArgs false
set_option maxHeartbeats 40000000
set_option maxRecDepth 4000
open List renaming getElem?_eq_some_iff->xe,getD_eq_getElem?_getD->xf,getElem?_eq_getElem->xg,length_eraseIdx_le->xm,find?_append->xp
open Nat renaming le_refl->xh
open Int renaming toNat_natCast->xj,le_refl->xu
open Bool renaming false_eq_true->xo
open ByteArray renaming empty->xq
namespace Go.Proofs.YtkkekopomiehlabGreatDoor
section
open Go.RowKit
variable {w W:World}{L L':Nat->Nat}{r:Nat}{P:zad}{gt tc:Nat}{m:Value}{gv vc:Nat}{t s:Value}{sv:List (Value×Value)}{tv:List (Int×Value)}
theorem zpz (a b:Int)(hh:hasB P.vs a b=true)(h:RunM w L r P gt tc m gv vc t s sv tv):Calls Tryz.prog 174 #[.pointer (some ⟨r,0,none⟩),.int .i64 a,.int .i64 b] w fun e W=>e=.returned (.tuple #[.int .i64 (insG P.vs a b).r,.bool true])/\w=W:=by
 have hI:=zg7 a b hh h;obtain⟨i,j,V,y,h1,h2,hV,hx,hy⟩:=zhy hh;rw[hy];subst h1 h2;obtain⟨q,hq,c0,c1,ho,_⟩:=h.svc hV;have hi:=(xe.1 hV).1;have hj:=(xe.1 hx).1;obtain⟨g,cap,hsl,hlg,hc1,hc2,lg,hcell,_⟩:=ho.some (by omega);rw[hsl]at c0;have d0:w.cell? ⟨g,j*2,none⟩=some (.int .i64 y.r):=hcell (j*2+0) _ (za2 (f:=insF) (fun _=>rfl) hx (by omega));have k14:w.cell? ⟨r,14,none⟩=some (.slice (some ⟨gv,0,none⟩) P.vs.length vc):=h.row.cell rfl;have hv:=h.vcl;have hx0:(0:Int)<=(i:Int):=by omega
 have hx1:(i:Int)<(P.vs.length:Int):=by omega
 have hy0:(0:Int)<=(j:Int):=by omega
 have hy1:(j:Int)<(V.ins.length:Int):=by omega
 clear h hh hV hx hq c1 ho hi hj hcell hsl hy hlg;generalize P.vs.length=nv at *;generalize V.ins.length=ni at *;generalize y.r=yr at *
 go_enter Tryz.func174,Tryz.ntmps174
 go_wp2_with (first|(go_at_call 188;refine hI.mono ?_;rintro e W' ⟨rfl,hW⟩;obtain rfl:=hW.symm))
 go_ret2
 exact⟨rfl,rfl⟩
def pinO (ps:List PinD)(t:Int):PinD:=match ps.find? (fun p=>p.t == t) with
 |some p=>p
 |none=>⟨t,-1,-1⟩
theorem zwg {ps:List PinD}{f:PinD->Bool}{j:Nat}{p:PinD}(hj:ps[j]?=some p)(h:(ps.take j).find? f=none):(f p=true->ps.find? f=some p)/\(f p=false->(ps.take (j+1)).find? f=none):=by
 have hlt:=(xe.1 hj).1;have e:ps=ps.take j++p::ps.drop (j+1):=by
  conv=>lhs;rw[<- List.take_append_drop j ps,List.drop_eq_getElem_cons hlt]
  congr 2
  rw[xg hlt]at hj;simpa using hj
 refine⟨fun hf=>?_,fun hf=>?_⟩
 ·rw[e,xp,h];simp[hf]
 ·rw[List.take_add_one,hj,xp,h];simp[hf]
theorem zp9 (i j rl:Nat)(V:SrvD)(y:InsD)(ps:List PinD)(top:Int)(hV:P.vs[i]?=some V)(hy:V.ins[j]?=some y)(hr:y.r=rl)(hps:V.rels[rl]?=some ps)(hl:ps.length<=2000000)(h:RunM w L r P gt tc m gv vc t s sv tv):Calls Tryz.prog 190 #[.pointer (some ⟨r,0,none⟩),.int .i64 i,.int .i64 j,.int .i64 top] w fun e W=>e=.returned (.agg #[.int .i64 (pinO ps top).t,.int .i64 (pinO ps top).w,.int .i64 (pinO ps top).r])/\Below w.heap.size w W:=by
 have hi:=(xe.1 hV).1;have hjl:=(xe.1 hy).1;have hrl:=(xe.1 hps).1;have hh:hasB P.vs (i:Int) (j:Int)=true:=by
  rw[zd3,xj,xf,hV];show 0<=_/\_<_/\0<=_/\(j:Int)<(V.ins.length:Int);omega
 have hg:insG P.vs (i:Int) (j:Int)=y:=by
  unfold insG;rw[xj,xj,xf (l:=P.vs),hV];show V.ins.getD j ins0=y;rw[xf,hy];rfl
 have hR:=fun (W:World) (hb:Below w.heap.size w W)=>zpz (i:Int) (j:Int) hh (h.keep hb);rw[hg,hr]at hR;obtain⟨q,hq,c0,c1,ho,ra,rc,hrel,hrc⟩:=h.svc hV;obtain⟨b,o,pa,pc,h1,h2,h3,h4⟩:=hrc rl ps hps;subst h1;rw[hrel]at c1;have k14:w.cell? ⟨r,14,none⟩=some (.slice (some ⟨gv,0,none⟩) P.vs.length vc):=h.row.cell rfl;have hv:=h.vcl;have lr:=h.row.lt;have lgv:=h.gvl;have lb:=zag h3;have n1:=fun W=>za4 (rl:Int) (V.rels.length:Int) W;rw[show numB (rl:Int) (V.rels.length:Int)=true by unfold numB;simp;omega]at n1;have hx0:(0:Int)<=(i:Int):=by omega
 have hx1:(i:Int)<(P.vs.length:Int):=by omega
 have hy0:(0:Int)<=(rl:Int):=by omega
 have hy1:(rl:Int)<(V.rels.length:Int):=by omega
 obtain⟨R,hRR⟩:∃ R,R=pinO ps top:=⟨_,rfl⟩;rw[<- hRR];have HR:=zaa hRR;have H4:=zaa h4;clear h hh hV hq c0 ho hi hjl hrl hps hrc hrel hy hr hg h4 hRR;generalize P.vs.length=nv at *;generalize V.rels.length=nr at *;obtain⟨n,hn⟩:∃ n,n=ps.length:=⟨_,rfl⟩;rw[<- hn]at h3 hl;have HN:=zaa hn;clear hn;have B2:=zaa (thn3 (bel1 w (.cells #[.int .i64 0,.int .i64 0,.int .i64 0] 165)) (bel1 _ (.cells #[.int .i64 top,.int .i64 (-1),.int .i64 (-1)] 165)));obtain⟨Rt,Rw,Rr⟩:=R;simp only
 go_enter Tryz.func190,Tryz.ntmps190
 go_wp2_with (first
  |(go_at_call 174;refine(hR _ B2.out).mono ?_;rintro e _ ⟨rfl,rfl⟩)
  |(go_at_call 178;refine(n1 _).mono ?_;rintro e _ ⟨rfl,rfl⟩))
 go_loopw [52] (fun vi wr=>∃ k:Nat,k<=n/\vi=.int .i64 k/\Hid ((ps.take k).find? (fun p=>p.t == top)=none)/\Below ((w.alloc (.cells #[.int .i64 0,.int .i64 0,.int .i64 0] 165)).alloc (.cells #[.int .i64 top,.int .i64 (-1),.int .i64 (-1)] 165)).heap.size ((w.alloc (.cells #[.int .i64 0,.int .i64 0,.int .i64 0] 165)).alloc (.cells #[.int .i64 top,.int .i64 (-1),.int .i64 (-1)] 165)) wr) (fun i _=>n-(intOf i).toNat)
 case atStart=>exact⟨0,Nat.zero_le _,rfl,(by show _=_;simp),Below.refl _ _⟩
 case round =>
  obtain⟨k,hk,rfl,hno,hb⟩:=hrel
  rename World=>w5
  have hz0 := znn k;have hbw:=thn3 B2.out hb;have Z5:=zaa (((show RowIs (w.alloc (.cells #[.int .i64 0,.int .i64 0,.int .i64 0] 165)) w.heap.size 165 [.int .i64 0,.int .i64 0,.int .i64 0]from zak _ _).keep (bel1 _ _)).keep hb);have N5:=zaa ((show RowIs ((w.alloc (.cells #[.int .i64 0,.int .i64 0,.int .i64 0] 165)).alloc (.cells #[.int .i64 top,.int .i64 (-1),.int .i64 (-1)] 165)) (w.heap.size+1) 165 [.int .i64 top,.int .i64 (-1),.int .i64 (-1)]from nw2 _ _ _).keep hb);have y0:=Z5.out.cell (j:=0) rfl;have y1:=Z5.out.cell (j:=1) rfl;have y2:=Z5.out.cell (j:=2) rfl;have f0:=Z5.out.frozen 0;have f1:=Z5.out.frozen 1;have f2:=Z5.out.frozen 2;have z5:=hb.size;have ls:=Z5.out.lt;by_cases hlt:k<n
  ·obtain⟨p,hp⟩:∃ p,ps[k]?=some p:=⟨ps[k]'(by rw[<- HN.out];exact hlt),xg _⟩;obtain⟨b',o',e1,e2,d0,d1,d2⟩:=H4.out k p hp;have lb':=zag d0;have d0:=zab hbw d0;have d1:=zab hbw d1;have d2:=zab hbw d2;subst e1;obtain⟨fy,fn⟩:=zwg hp hno.out;have hz1:(k:Int)<(n:Int):=by omega
   have lb5:=zag d0;have hR2:p.t=top->Hid ((⟨Rt,Rw,Rr⟩:PinD)=p):=fun e=>by
    show _=_;rw[HR.out];unfold pinO;rw[fy (by simpa using e)]
   have hN2:¬ p.t=top->Hid ((ps.take (k+1)).find? (fun p=>p.t == top)=none):=fun e=>fn (by simpa using e);have HB:=zaa hb;have HBW:=zaa hbw;clear hno fy fn hb hbw hp;obtain⟨pt,pw,pr⟩:=p;simp only at d0 d1 d2 hR2 hN2;by_cases he:pt=top
   ·have hq:=hR2 he;obtain⟨rfl,rfl,rfl⟩:Rt=pt/\Rw=pw/\Rr=pr:=by have:=hq.out;simpa using this
    clear hq hR2 hN2 HR
    go_wp2_with fail
    subst he;have Z7:=(((Z5.out.set 0 (.int .i64 Rt)).set 1 (.int .i64 Rw)).set 2 (.int .i64 Rr)).keep (bel1 _ (.cells #[.int .i64 Rt,.int .i64 Rw,.int .i64 Rr] 165));have o0:=Z7.cell (j:=0) rfl;have o1:=Z7.cell (j:=1) rfl;have o2:=Z7.cell (j:=2) rfl;refine bodyPost_ret (v:=.agg #[.int .i64 Rt,.int .i64 Rw,.int .i64 Rr]) (by simp[results,Tryz.results190,go_sem,o0,o1,o2]) rfl ⟨rfl,?_⟩;exact thn3 (((HBW.out.setCell (p:=⟨w.heap.size,0,none⟩) (xh _) _).setCell (p:=⟨w.heap.size,1,none⟩) (xh _) _).setCell (p:=⟨w.heap.size,2,none⟩) (xh _) _) (bel1 _ _)
   ·have hq:=hN2 he;clear hN2 hR2
    go_wp2_with fail
    go_roundw
    case rel=>exact⟨k+1,by omega,by go_num,hq,HB.out.alloc (by omega) _⟩
    case measure=>simp[intOf];omega
  ·obtain rfl:n=k:=by omega
   have hq:Hid ((⟨Rt,Rw,Rr⟩:PinD)=⟨top,-1,-1⟩):=by
    show _=_;have:=hno.out;rw[HN.out,List.take_length]at this;rw[HR.out];unfold pinO;rw[this]
   obtain⟨rfl,rfl,rfl⟩:Rt=top/\Rw=-1/\Rr=-1:=by have:=hq.out;simpa using this
   have q0:=N5.out.cell (j:=0) rfl;have q1:=N5.out.cell (j:=1) rfl;have q2:=N5.out.cell (j:=2) rfl;have HBW:=zaa hbw;clear hq hno HR hb hbw
   go_wp2_with fail
   have Z7:=((Z5.out.set 0 (.int .i64 Rt)).set 1 (.int .i64 (-1))).set 2 (.int .i64 (-1));have o0:=Z7.cell (j:=0) rfl;have o1:=Z7.cell (j:=1) rfl;have o2:=Z7.cell (j:=2) rfl;refine bodyPost_ret (v:=.agg #[.int .i64 Rt,.int .i64 (-1),.int .i64 (-1)]) (by simp[results,Tryz.results190,go_sem,o0,o1,o2]) rfl ⟨rfl,?_⟩;exact((HBW.out.setCell (p:=⟨w.heap.size,0,none⟩) (xh _) _).setCell (p:=⟨w.heap.size,1,none⟩) (xh _) _).setCell (p:=⟨w.heap.size,2,none⟩) (xh _) _
def schO (ss:List ByteArray)(k:Int):ByteArray:=if numB k ss.length then ss.getD k.toNat xq else xq
theorem zq7 (k:Int)(h:RunM w L r P gt tc m gv vc t s sv tv):Calls Tryz.prog 191 #[.pointer (some ⟨r,0,none⟩),.int .i64 k] w fun e W=>e=.returned (.tuple #[.string (schO P.ss k),.bool (numB k P.ss.length)])/\w=W:=by
 obtain⟨sa,sc,rfl,hs⟩:=h.sta.sch;have k16:w.cell? ⟨r,16,none⟩=some (.slice sa P.ss.length sc):=h.row.cell rfl;have n1:=fun W=>za4 k (P.ss.length:Int) W;unfold schO;cases hk:numB k P.ss.length with
 |false =>
  rw[hk]at n1;rw[if_neg (by simp)];clear h hs hk;generalize P.ss.length=n at *
  go_enter Tryz.func191,Tryz.ntmps191
  go_wp2_with (first|(go_at_call 178;refine(n1 _).mono ?_;rintro e _ ⟨rfl,rfl⟩))
  go_ret2
  exact⟨rfl,rfl⟩
 |true =>
  rw[hk]at n1;rw[if_pos rfl];unfold numB at hk;simp at hk;obtain⟨i,rfl⟩:∃ i:Nat,k=i:=⟨k.toNat,by omega⟩;obtain⟨x,hx⟩:∃ x,P.ss[i]?=some x:=⟨P.ss[i]'(by omega),xg _⟩;obtain⟨b,o,rfl,_,d0⟩:=hs i x hx;rw[xj,xf,hx];show Calls _ _ _ _ fun e W=>e=.returned (.tuple #[.string x,.bool true])/\w=W;have hx0:(0:Int)<=(i:Int):=by omega
  have hx1:(i:Int)<(P.ss.length:Int):=by omega
  clear h hs hk hx;generalize P.ss.length=n at *
  go_enter Tryz.func191,Tryz.ntmps191
  go_wp2_with (first|(go_at_call 178;refine(n1 _).mono ?_;rintro e _ ⟨rfl,rfl⟩))
  go_ret2
  exact⟨rfl,rfl⟩
theorem ztl (i j rl:Nat)(V:SrvD)(y:InsD)(ps:List PinD)(top:Int)(hV:P.vs[i]?=some V)(hy:V.ins[j]?=some y)(hr:y.r=rl)(hps:V.rels[rl]?=some ps)(hl:ps.length<=2000000)(h:RunM w L r P gt tc m gv vc t s sv tv):Calls Tryz.prog 160 #[.pointer (some ⟨r,0,none⟩),.int .i64 i,.int .i64 j,.int .i64 top] w fun e W=>e=.returned (.tuple #[.string (schO P.ss (pinO ps top).w),.bool (numB (pinO ps top).w P.ss.length)])/\Below w.heap.size w W:=by
 have hP:=zp9 i j rl V y ps top hV hy hr hps hl h;have hS:=fun (W:World) (hb:Below w.heap.size w W)=>zq7 (pinO ps top).w (h.keep hb);clear h;obtain⟨R,hR⟩:∃ R,R=pinO ps top:=⟨_,rfl⟩;rw[<- hR]at hP hS ⊢;clear hR;obtain⟨Rt,Rw,Rr⟩:=R;simp only at hP hS ⊢;generalize schO P.ss _=X at *;generalize numB _ _=Y at *
 go_enter Tryz.func160,Tryz.ntmps160
 go_wp2_with (first
  |(go_at_call 190;refine hP.mono ?_;rintro e w1 ⟨rfl,hb1⟩)
  |(go_at_call 191;refine(hS _ (thn3 hb1 (bel1 _ _))).mono ?_;rintro e _ ⟨rfl,rfl⟩))
 go_ret2
 exact⟨rfl,thn3 hb1 (bel1 _ _)⟩
theorem zl0 (i j rl:Nat)(V:SrvD)(y:InsD)(ps:List PinD)(top:Int)(hV:P.vs[i]?=some V)(hy:V.ins[j]?=some y)(hr:y.r=rl)(hps:V.rels[rl]?=some ps)(hl:ps.length<=2000000)(h:RunM w L r P gt tc m gv vc t s sv tv):Calls Tryz.prog 126 #[.pointer (some ⟨r,0,none⟩),.int .i64 i,.int .i64 j,.int .i64 top] w fun e W=>e=.returned (.tuple #[.string (schO P.ss (pinO ps top).r),.bool (numB (pinO ps top).r P.ss.length)])/\Below w.heap.size w W:=by
 have hP:=zp9 i j rl V y ps top hV hy hr hps hl h;have hS:=fun (W:World) (hb:Below w.heap.size w W)=>zq7 (pinO ps top).r (h.keep hb);clear h;obtain⟨R,hR⟩:∃ R,R=pinO ps top:=⟨_,rfl⟩;rw[<- hR]at hP hS ⊢;clear hR;obtain⟨Rt,Rw,Rr⟩:=R;simp only at hP hS ⊢;generalize schO P.ss _=X at *;generalize numB _ _=Y at *
 go_enter Tryz.func126,Tryz.ntmps126
 go_wp2_with (first
  |(go_at_call 190;refine hP.mono ?_;rintro e w1 ⟨rfl,hb1⟩)
  |(go_at_call 191;refine(hS _ (thn3 hb1 (bel1 _ _))).mono ?_;rintro e _ ⟨rfl,rfl⟩))
 go_ret2
 exact⟨rfl,thn3 hb1 (bel1 _ _)⟩
end
section
open Go.RowKit
variable {X:WayD}{W:Nat->Int->Int->RecD->Prop}{P:zad}
def dlvN:Nat->zad->zad
 |0,P=>P
 |n+1,P=>if P.ms=[] then P else dlvN n (delP P 0)
def quiP (P:zad):zad:=tckP (dlvN 80 P)
def potM (m:MsgD):Nat:=if m.k=2 then 1 else 2
def pot (ms:List MsgD):Nat:=(ms.map potM).sum
theorem zzu (ms:List MsgD):pot ms<=2*ms.length:=by
 induction ms with
 |nil=>simp[pot]
 |cons m l ih =>
  simp only[pot,List.map_cons,List.sum_cons,List.length_cons]at *;have:potM m<=2:=by unfold potM;split<;>omega
  omega
theorem zzt (a b:List MsgD):pot (a++b)=pot a+pot b:=by simp[pot]
theorem zif {ms:List MsgD}(h:ms.length<=40)(m:MsgD):(za9 ms m).length<=40:=by
 unfold za9;split
 ·exact h
 ·simp;omega
theorem zvq {P:zad}{m:MsgD}{l:List MsgD}(h:P.ms=m::l):delP P 0=arrP { P with ms:=l } m:=by
 unfold delP;rw[if_pos (by unfold numB;rw[h];simp),h];rfl
theorem zt2 (P:zad)(m:MsgD):(arrP P m).ms=P.ms\/(m.k≠2/\(arrP P m).ms=za9 P.ms { m with k:=2 }):=by
 unfold arrP;split
 ·exact .inl rfl
 ·rename_i hk;split
  ·exact .inr ⟨hk,rfl⟩
  ·exact .inl rfl
theorem zvp {P:zad}(h:P.ms≠[])(h40:P.ms.length<=40):pot (delP P 0).ms<pot P.ms/\(delP P 0).ms.length<=40:=by
 cases e:P.ms with
 |nil=>exact absurd e h
 |cons m l =>
  rw[e]at h40;simp at h40;rw[zvq e];have hp:pot (m::l)=potM m+pot l:=by simp[pot]
  rw[hp];have h0:1<=potM m:=by unfold potM;split<;>omega
  rcases zt2 { P with ms:=l } m with q|⟨hk,q⟩
  ·rw[q];exact⟨by show pot l<_;omega,by show l.length<=40;omega⟩
  ·rw[q];have h2:potM m=2:=by unfold potM;rw[if_neg hk]
   refine⟨?_,zif (by show l.length<=40;omega) _⟩;show pot (za9 l _)<_;unfold za9;split
   ·omega
   ·rw[zzt];have:pot [({ m with k:=2 }:MsgD)]=1:=rfl;omega
theorem znq:∀ (n:Nat) (P:zad),pot P.ms<=n->P.ms.length<=40->(dlvN n P).ms=[]
 |0,P,h,_=>by
  cases e:P.ms with
  |nil=>exact e
  |cons m l =>
   exfalso;rw[e]at h;have hp:pot (m::l)=potM m+pot l:=by simp[pot]
   have h0:1<=potM m:=by unfold potM;split<;>omega
   omega
 |n+1,P,h,h40=>by
  unfold dlvN;split
  ·rename_i e;exact e
  ·rename_i e;obtain⟨h1,h2⟩:=zvp e h40;exact znq n _ (by omega) h2
theorem zvs {P:zad}(h:P.ms.length<=40):(dlvN 80 P).ms=[]:=znq 80 P (by have:=zzu P.ms;omega) h
theorem zvt {P:zad}(h:P.ms=[]):∀ n,dlvN n P=P
 |0=>rfl
 |n+1=>by unfold dlvN;rw[if_pos h]
structure Ext (P:zad):Prop where
 l40:P.ms.length<=40
 ub:P.c.wk=true->cmdB P.c=true
 ur:P.c.un<=P.ti+P.c.rest
 r6:P.c.rest<=6
 r0:0<=P.c.rest
theorem zwr {a0 a1 a2:Bool}{z:Int}(h:frst a0 a1 a2 z≠z):frst a0 a1 a2 z<z:=by
 unfold frst at *;split at h
 ·rename_i q;rw[if_pos q];omega
 ·rename_i q;rw[if_neg q];split at h
  ·rename_i q;rw[if_pos q];omega
  ·rename_i q;rw[if_neg q];split at h
   ·rename_i q;rw[if_pos q];omega
   ·exact absurd rfl h
theorem zhj {vs:List SrvD}{c:CtlD}(h:Shp X vs c)(ho:zar c=false):cmdB (begC c)=true:=by
 have hst:c.st=1\/c.st=2:=by have:=h.st;unfold zar at ho;simp at ho;omega
 obtain⟨t,ht,e1,e2,e3,e4,e5,e6,e7⟩:=zjv h hst;have hc:curT (begC c)=curT c:=zju rfl rfl rfl;unfold cmdB;rw[hc];have:frst (begC c).a0 (begC c).a1 (begC c).a2 (curT c).z=0:=by
  unfold frst;rw[if_pos ⟨by omega,rfl⟩]
 rw[this];exact decide_eq_true (by omega)
theorem Ext.drp (h:Ext P)(k:Int):Ext (drpP P k):=by
 unfold drpP;split
 ·refine⟨?_,h.ub,h.ur,h.r6,h.r0⟩;have:=h.l40;show (P.ms.eraseIdx k.toNat).length<=40;have:=xm P.ms k.toNat;omega
 ·exact h
theorem Ext.cpy (h:Ext P)(k:Int):Ext (cpyP P k):=by
 unfold cpyP;split
 ·exact⟨zif h.l40 _,h.ub,h.ur,h.r6,h.r0⟩
 ·exact h
theorem zwv {c:CtlD}{m:MsgD}{ti:Int}(hu:c.wk=true->cmdB c=true)(hr:c.un<=ti+c.rest):((zbg c m ti).wk=true->cmdB (zbg c m ti)=true)/\(zbg c m ti).un<=ti+(zbg c m ti).rest/\(zbg c m ti).rest=c.rest:=by
 unfold zbg;split
 ·split
  ·have e:=zc5 { ansC c m.i with wk:=false,pos:=(if (ansC c m.i).st=2 then (ansC c m.i).pos-1 else (ansC c m.i).pos+1),un:=ti+(ansC c m.i).rest };unfold finC;refine⟨fun q=>?_,?_,e.2.2.2.2.2.1⟩
   ·rw[e.2.2.1]at q;cases q
   ·rw[e.2.2.2.2.2.2.1,e.2.2.2.2.2.1];exact xu _
  ·rename_i hf;exact⟨fun _=>decide_eq_true (zwr hf),hr,rfl⟩
 ·exact⟨hu,hr,rfl⟩
theorem Ext.arr (h:Ext P)(m:MsgD):Ext (arrP P m):=by
 unfold arrP;split
 ·obtain⟨a,b,c⟩:=zwv (m:=m) h.ub h.ur;exact⟨h.l40,a,b,by show (zbg P.c m P.ti).rest<=6;rw[c];exact h.r6,by show 0<=(zbg P.c m P.ti).rest;rw[c];exact h.r0⟩
 ·split
  ·exact⟨zif h.l40 _,h.ub,h.ur,h.r6,h.r0⟩
  ·exact h
theorem Ext.del (h:Ext P)(k:Int):Ext (delP P k):=by
 unfold delP;split
 ·refine Ext.arr (P:={ P with ms:=P.ms.eraseIdx k.toNat }) ⟨?_,h.ub,h.ur,h.r6,h.r0⟩ _;have:=h.l40;show (P.ms.eraseIdx k.toNat).length<=40;have:=xm P.ms k.toNat;omega
 ·exact h
theorem Ext.pau (h:Ext P)(on:Bool):Ext (pauP P on):=⟨h.l40,h.ub,h.ur,h.r6,h.r0⟩
theorem Ext.wrt (h:Ext P)(t:Nat)(sc da:ByteArray):Ext (wrtP P t sc da):=⟨h.l40,h.ub,h.ur,h.r6,h.r0⟩
theorem Ext.crs (hi:PInv X W P)(h:Ext P):Ext (crsP P):=by
 unfold crsP crsC;split
 ·exact h
 ·rename_i ho;split
  ·exact⟨h.l40,fun _=>zhj hi.sh (by simpa using ho),h.ur,h.r6,h.r0⟩
  ·rename_i hw;exact⟨h.l40,fun q=>absurd q hw,xu _,h.r6,h.r0⟩
theorem Ext.trn (hi:PInv X W P)(h:Ext P)(h1:P.c.st=1):Ext (trnP P):=by
 have hst:=hi.sh.st;unfold trnP zc8;by_cases hw:P.c.wk=true
 ·rw[if_pos hw];have hpos:P.c.pos<X.n:=by omega
  have hp:=hi.sh.p0;rw[zrm (by show 0<P.c.pos+1;omega) rfl];have hs:Shp X P.vs { P.c with st:=2,pos:=P.c.pos+1 }:=⟨hi.sh.len,hi.sh.tsk,by show 0<=P.c.pos+1;omega,by show P.c.pos+1<=X.n;omega,.inr (.inl ⟨rfl,by show 0<P.c.pos+1;omega⟩),hi.sh.ba⟩;exact⟨h.l40,fun _=>zhj hs (by unfold zar;simp),h.ur,h.r6,h.r0⟩
 ·rw[if_neg hw];obtain⟨e1,e2,e3,e4,e5,e6,e7,e8⟩:=zc5 { P.c with st:=2 };refine⟨h.l40,fun q=>?_,?_,?_,?_⟩
  ·have q:(zau { P.c with st:=2 }).wk=true:=q;rw[e3]at q;exact absurd q hw
  ·show (zau { P.c with st:=2 }).un<=P.ti+(zau { P.c with st:=2 }).rest;rw[e7,e6];exact h.ur
  ·show (zau { P.c with st:=2 }).rest<=6;rw[e6];exact h.r6
  ·show 0<=(zau { P.c with st:=2 }).rest;rw[e6];exact h.r0
theorem ztp {vs:List SrvD}{c:CtlD}{ti:Int}(hs:Shp X vs c)(hu:c.wk=true->cmdB c=true):((actC c ti).wk=true->cmdB (actC c ti)=true)/\(actC c ti).un=c.un/\(actC c ti).rest=c.rest:=by
 have cc:∀ c:CtlD,(cmdC c).un=c.un/\(cmdC c).rest=c.rest/\cmdB (cmdC c)=cmdB c:=fun c=>by
  unfold cmdC;split
  iterate 2
   ·exact⟨rfl,rfl,rfl⟩
 unfold actC;split
 ·exact⟨hu,rfl,rfl⟩
 ·rename_i hb;have ho:zar c=false:=by
   cases e:zar c with
   |false=>rfl
   |true=>rw[e]at hb;simp at hb
  have hA:((actA c ti).wk=true->cmdB (actA c ti)=true)/\(actA c ti).un=c.un/\(actA c ti).rest=c.rest:=by
   unfold actA;split
   ·exact⟨fun _=>zhj hs ho,rfl,rfl⟩
   ·exact⟨hu,rfl,rfl⟩
  split
  ·obtain⟨a,b,d⟩:=cc (actA c ti);exact⟨fun q=>by rw[d];exact hA.1 (by assumption),by rw[a];exact hA.2.1,by rw[b];exact hA.2.2⟩
  ·exact hA
theorem Ext.tck (hi:PInv X W P)(h:Ext P):Ext (tckP P):=by
 obtain⟨a,b,c⟩:=ztp (ti:=P.ti+1) hi.sh h.ub;unfold tckP;refine⟨?_,a,?_,by show (actC P.c (P.ti+1)).rest<=6;rw[c];exact h.r6,by show 0<=(actC P.c (P.ti+1)).rest;rw[c];exact h.r0⟩
 ·show (if actB P.c (P.ti+1) then za9 P.ms (actM P.c (P.ti+1)) else P.ms).length<=40;split
  ·exact zif h.l40 _
  ·exact h.l40
 ·show (actC P.c (P.ti+1)).un<=P.ti+1+(actC P.c (P.ti+1)).rest;rw[b,c];have:=h.ur;omega
end
section
open Go.RowKit
def RunE (w:World)(L:Nat->Nat)(r:Nat)(P:zad):Prop:=∃ gt tc m gv vc t s sv tv,RunM w L r P gt tc m gv vc t s sv tv
def Turn (w:World)(L:Nat->Nat)(r:Nat)(W:World)(P':zad):Prop:=∃ L',RunE W L' r P'/\Lab w L L'/\Chg (fun b=>L b≠0) w W
theorem RunE.keep {w W:World}{L:Nat->Nat}{r:Nat}{P:zad}(h:RunE w L r P)(hb:Below w.heap.size w W):RunE W L r P:=by
 obtain⟨gt,tc,m,gv,vc,t,s,sv,tv,h⟩:=h;exact⟨gt,tc,m,gv,vc,t,s,sv,tv,h.keep hb⟩
theorem Turn.below {w W W':World}{L:Nat->Nat}{r:Nat}{P:zad}(h:Turn w L r W P)(hb:Below W.heap.size W W'):Turn w L r W' P:=by
 obtain⟨L',h1,h2,h3⟩:=h;exact⟨L',h1.keep hb,h2,h3.trans (Chg.of hb)⟩
theorem Turn.of {w W:World}{L:Nat->Nat}{r:Nat}{P:zad}(h:RunE w L r P)(hb:Below w.heap.size w W):Turn w L r W P:=⟨L,h.keep hb,Lab.refl _ _,Chg.of hb⟩
theorem Turn.trans {w W W':World}{L L':Nat->Nat}{r:Nat}{P:zad}(h2:Lab w L L')(h3:Chg (fun b=>L b≠0) w W)(k:Turn W L' r W' P):Turn w L r W' P:=by
 obtain⟨L2,k1,k2,k3⟩:=k;exact⟨L2,k1,h2.trans h3.size k2,h3.step h2 k3 fun b hb=>hb⟩
theorem Turn.undrew {w W:World}{L:Nat->Nat}{r:Nat}{P:zad}(h:Turn w.drew L r W P):Turn w L r W P:=by
 obtain⟨L',h1,h2,h3⟩:=h;exact⟨L',h1,h2,⟨h3.os,h3.tape,h3.output,h3.size,h3.block⟩⟩
section
variable {w W:World}{L L':Nat->Nat}{r:Nat}{P:zad}{gt tc:Nat}{m:Value}{gv vc:Nat}{t s:Value}{sv:List (Value×Value)}{tv:List (Int×Value)}
theorem RunM.chgr (h:RunM w L r P gt tc m gv vc t s sv tv)(hc:Chg (·= r) w W):Chg (fun b=>L b≠0) w W:=hc.mono fun b e=>by rw[e,h.lr];omega
theorem zpx (h:RunE w L r P):Calls Tryz.prog 72 #[.pointer (some ⟨r,0,none⟩)] w fun e W=>e=.returned (.bool (zar P.c))/\w=W:=by
 obtain⟨gt,tc,m,gv,vc,t,s,sv,tv,h⟩:=h;have hI:=zfi h.row;clear h;generalize zar P.c=B at *
 go_enter Tryz.func72,Tryz.ntmps72
 go_wp2_with (first|(go_at_call 135;refine hI.mono ?_;rintro e _ ⟨rfl,rfl⟩))
 go_ret;exact⟨rfl,rfl⟩
theorem zys (h:RunE w L r P):Calls Tryz.prog 74 #[.pointer (some ⟨r,0,none⟩)] w fun e W=>e=.returned (.bool (decide (P.c.st=2)))/\w=W:=by
 obtain⟨gt,tc,m,gv,vc,t,s,sv,tv,h⟩:=h;have k3:w.cell? ⟨r,3,none⟩=some (.int .i64 P.c.st):=h.row.cell rfl;clear h;generalize P.c.st=st at *
 go_enter Tryz.func74,Tryz.ntmps74
 go_wp2_with fail
 go_ret;exact⟨zbw (by rw[Bool.eq_iff_iff];simp),rfl⟩
theorem zrz (c:CtlD):(zc8 c).ts=c.ts:=by
 unfold zc8;rw[(zc5 _).1];split<;>rfl
theorem zy1 (hb:0<=P.c.pos/\P.c.pos<=4000000000)(h:RunE w L r P):Calls Tryz.prog 75 #[.pointer (some ⟨r,0,none⟩)] w fun e W=>e=.returned (.tuple #[])/\Turn w L r W (trnP P):=by
 obtain⟨gt,tc,m,gv,vc,t,s,sv,tv,h⟩:=h;have hI:=(yadq hb h.row).mono fun e W q=>(⟨q.1,L,⟨_,_,_,_,_,_,_,_,_,h.ctl (zrz _) q.2.2 q.2.1⟩,Lab.refl _ _,h.chgr q.2.2⟩:e=Ending.returned (.tuple #[])/\Turn w L r W (trnP P));clear h;generalize trnP P=Q at *
 go_enter Tryz.func75,Tryz.ntmps75
 go_wp2_with (first|(go_at_call 136;refine hI.mono ?_;rintro e w1 ⟨rfl,ht⟩))
 refine bodyPost_end (v:=.tuple #[]) (results_none rfl _ _ _) rfl ?_;exact⟨rfl,ht⟩
theorem zyy (on:Bool)(h:RunE w L r P):Calls Tryz.prog 73 #[.pointer (some ⟨r,0,none⟩),.bool on] w fun e W=>e=.returned (.tuple #[])/\Turn w L r W (pauP P on):=by
 obtain⟨gt,tc,m,gv,vc,t,s,sv,tv,h⟩:=h;have k6:w.cell? ⟨r,6,none⟩=some (.bool P.c.pa):=h.row.cell rfl;have x6:=h.row.frozen 6;have hc:=(Chg.refl (·= r) w).set (p:=⟨r,6,none⟩) (.inl rfl) (.bool on);have HT:Hid (Turn w L r (w.setCell ⟨r,6,none⟩ (.bool on)) (pauP P on)):=⟨L,⟨_,_,_,_,_,_,_,_,_,h.ctl (c':={ P.c with pa:=on }) rfl hc (h.row.set 6 _)⟩,Lab.refl _ _,h.chgr hc⟩;clear h hc;generalize pauP P on=Q at *
 go_enter Tryz.func73,Tryz.ntmps73
 go_wp2_with fail
 refine bodyPost_end (v:=.tuple #[]) (results_none rfl _ _ _) rfl ?_;exact⟨rfl,HT.out⟩
theorem zm3 (c:CtlD)(ti:Int):(crsC c ti).ts=c.ts:=by
 unfold crsC;split
 ·rfl
 ·split<;>rfl
theorem zyk (hb:0<=P.ti/\P.ti<=4000000000/\0<=P.c.rest/\P.c.rest<=4000000000)(h:RunE w L r P):Calls Tryz.prog 76 #[.pointer (some ⟨r,0,none⟩)] w fun e W=>e=.returned (.tuple #[])/\Turn w L r W (crsP P):=by
 obtain⟨gt,tc,m,gv,vc,t,s,sv,tv,h⟩:=h;have k0:w.cell? ⟨r,0,none⟩=some (.int .i64 P.ti):=h.row.cell rfl;have hI:=(zu8 P.ti hb h.drew.row).mono fun e W q=>(⟨q.1,L,⟨_,_,_,_,_,_,_,_,_,h.drew.ctl (zm3 _ _) q.2.2 q.2.1⟩,Lab.refl _ _,h.drew.chgr q.2.2⟩:e=Ending.returned (.tuple #[])/\Turn w.drew L r W (crsP P));clear h hb;generalize crsP P=Q at *;generalize P.ti=ti at *
 go_enter Tryz.func76,Tryz.ntmps76
 go_wp2_with fail
 go_region_with (go_at_call 137;refine hI.mono ?_;rintro e w1 ⟨rfl,ht⟩)
 all_goals
  go_wp2_with fail
  refine bodyPost_end (v:=.tuple #[]) (results_none rfl _ _ _) rfl ?_;exact⟨rfl,ht.undrew⟩
theorem zy0 (h:RunE w L r P):Calls Tryz.prog 101 #[.pointer (some ⟨r,0,none⟩)] w fun e W=>e=.returned (.agg #[.int .i64 P.c.st,.int .i64 P.c.pos,.int .i64 P.ti,.int .i64 P.c.nu,.bool P.c.wk,.bool P.c.pa])/\Below w.heap.size w W:=by
 obtain⟨gt,tc,m,gv,vc,t,s,sv,tv,h⟩:=h;have hr:=h.row;have lr:=hr.lt;clear h;obtain⟨P0,c,P2,P3,P4,P5⟩:=P;obtain⟨ts,rest,st,pos,wk,pa,un,nu,ba,a0,a1,a2⟩:=c;have k0:w.cell? ⟨r,0,none⟩=some (.int .i64 P0):=hr.cell rfl;have k1:w.cell? ⟨r,1,none⟩=some (.slice (some ⟨gt,0,none⟩) ts.length tc):=hr.cell rfl;have k2:w.cell? ⟨r,2,none⟩=some (.int .i64 rest):=hr.cell rfl;have k3:w.cell? ⟨r,3,none⟩=some (.int .i64 st):=hr.cell rfl;have k4:w.cell? ⟨r,4,none⟩=some (.int .i64 pos):=hr.cell rfl;have k5:w.cell? ⟨r,5,none⟩=some (.bool wk):=hr.cell rfl;have k6:w.cell? ⟨r,6,none⟩=some (.bool pa):=hr.cell rfl;have k7:w.cell? ⟨r,7,none⟩=some (.int .i64 un):=hr.cell rfl;have k8:w.cell? ⟨r,8,none⟩=some (.int .i64 nu):=hr.cell rfl;have k9:w.cell? ⟨r,9,none⟩=some (.int .i64 ba):=hr.cell rfl;have k10:w.cell? ⟨r,10,none⟩=some (.bool a0):=hr.cell rfl;have k11:w.cell? ⟨r,11,none⟩=some (.bool a1):=hr.cell rfl;have k12:w.cell? ⟨r,12,none⟩=some (.bool a2):=hr.cell rfl;clear hr;simp only;generalize ts.length=n at *
 go_enter Tryz.func101,Tryz.ntmps101
 go_wp2_with fail
 go_big_region
 go_wp2_with fail
 exact bodyPost_ret (v:=.agg #[.int .i64 st,.int .i64 pos,.int .i64 P0,.int .i64 nu,.bool wk,.bool pa]) (by simp[results,Tryz.results101,go_sem]) rfl ⟨rfl,(thn3 (bel1 _ _) (bel1 _ _)).drew⟩
end
end
section
open Go.RowKit
variable {w W:World}{L L':Nat->Nat}{r:Nat}{P:zad}
theorem zl6 (h:RunE w L r P):Calls Tryz.prog 36 #[.pointer (some ⟨r,0,none⟩)] w fun e W=>e=.returned (.agg #[.int .i64 P.c.st,.int .i64 P.c.pos,.int .i64 P.ti,.int .i64 P.c.nu,.bool P.c.wk,.bool P.c.pa])/\Below w.heap.size w W:=by
 have c1:=fun (W:World) (hb:Below w.heap.size w W)=>zy0 (h.keep hb);clear h;generalize P.c.st=st at *;generalize P.c.pos=pos at *;generalize P.ti=ti at *;generalize P.c.nu=nu at *;generalize P.c.wk=wk at *;generalize P.c.pa=pa at *
 go_enter Tryz.func36,Tryz.ntmps36
 go_wp2_with (first|(go_at_call 101;refine(c1 _ (bel1 _ _)).mono ?_;rintro e w1 ⟨rfl,hb1⟩;have Z1:=zaa ((show RowIs (w.alloc (.cells #[.int .i64 0,.int .i64 0,.int .i64 0,.int .i64 0,.bool false,.bool false] 87)) w.heap.size 87 [.int .i64 0,.int .i64 0,.int .i64 0,.int .i64 0,.bool false,.bool false]from zak _ _).keep hb1);have y0:=Z1.out.cell (j:=0) rfl;have y1:=Z1.out.cell (j:=1) rfl;have y2:=Z1.out.cell (j:=2) rfl;have y3:=Z1.out.cell (j:=3) rfl;have y4:=Z1.out.cell (j:=4) rfl;have y5:=Z1.out.cell (j:=5) rfl;have f0:=Z1.out.frozen 0;have f1:=Z1.out.frozen 1;have f2:=Z1.out.frozen 2;have f3:=Z1.out.frozen 3;have f4:=Z1.out.frozen 4;have f5:=Z1.out.frozen 5))
 have Z2:=(((((Z1.out.set 0 (.int .i64 st)).set 1 (.int .i64 pos)).set 2 (.int .i64 ti)).set 3 (.int .i64 nu)).set 4 (.bool wk)).set 5 (.bool pa);have o0:=Z2.cell (j:=0) rfl;have o1:=Z2.cell (j:=1) rfl;have o2:=Z2.cell (j:=2) rfl;have o3:=Z2.cell (j:=3) rfl;have o4:=Z2.cell (j:=4) rfl;have o5:=Z2.cell (j:=5) rfl;refine bodyPost_ret (v:=.agg #[.int .i64 st,.int .i64 pos,.int .i64 ti,.int .i64 nu,.bool wk,.bool pa]) (by simp[results,Tryz.results36,go_sem,o0,o1,o2,o3,o4,o5]) rfl ⟨rfl,?_⟩;exact((((((thn3 (bel1 w _) hb1).setCell (p:=⟨w.heap.size,0,none⟩) (xh _) _).setCell (p:=⟨w.heap.size,1,none⟩) (xh _) _).setCell (p:=⟨w.heap.size,2,none⟩) (xh _) _).setCell (p:=⟨w.heap.size,3,none⟩) (xh _) _).setCell (p:=⟨w.heap.size,4,none⟩) (xh _) _).setCell (p:=⟨w.heap.size,5,none⟩) (xh _) _
theorem zi5 (a b:Int)(hh:hasB P.vs a b=true)(h:RunE w L r P):Calls Tryz.prog 102 #[.pointer (some ⟨r,0,none⟩),.int .i64 a,.int .i64 b] w fun e W=>e=.returned (.tuple #[.int .i64 (insG P.vs a b).r,.int .i64 0])/\w=W:=by
 obtain⟨gt,tc,m,gv,vc,t,s,sv,tv,h⟩:=h;have c1:=zpz a b hh h;clear h hh;generalize (insG P.vs a b).r=x at *
 go_enter Tryz.func102,Tryz.ntmps102
 go_wp2_with (first|(go_at_call 174;refine c1.mono ?_;rintro e _ ⟨rfl,rfl⟩))
 go_ret2
 exact⟨rfl,rfl⟩
theorem zgr (hl:P.ms.length<=40)(h:RunE w L r P):Calls Tryz.prog 53 #[.pointer (some ⟨r,0,none⟩)] w fun e W=>∃ v,e=.returned v/\W.ownsRow w.heap.size 100 5 v P.ms.length (P.ms.flatMap msgF)/\Below w.heap.size w W:=by
 obtain⟨gt,tc,m,gv,vc,t,s,sv,tv,h⟩:=h;have c1:=zs5 hl h;clear h;generalize P.ms.flatMap msgF=xs at *;generalize P.ms.length=n at *
 go_enter Tryz.func53,Tryz.ntmps53
 go_wp2_with (first|(go_at_call 117;refine c1.mono ?_;rintro e w1 ⟨v,rfl,ho,hb⟩;have HO:=zaa ho;have HB:=zaa hb;clear ho hb))
 go_ret;exact⟨_,rfl,HO.out,HB.out⟩
def zlz (P:zad):Prop:=P.ms.length<=40/\(∀ x∈P.ms,0<=x.i/\x.i<3/\hasB P.vs x.s x.i=true)/\(P.c.wk=true->zby P.c)/\0<=P.ti/\P.ti<=4000000000/\0<=P.c.rest/\P.c.rest<=4000000000
theorem zh6 {k:Int}{n:Nat}(h:numB k n=true):∃ i:Nat,k=i/\i<n:=by
 unfold numB at h;simp at h;exact⟨k.toNat,by omega,by omega⟩
theorem zlt (k:Int)(hok:zlz P)(h:RunE w L r P):Calls Tryz.prog 57 #[.pointer (some ⟨r,0,none⟩),.int .i64 k] w fun e W=>e=.returned (.int .i64 (if numB k P.ms.length then 0 else 11))/\Turn w L r W (delP P k):=by
 unfold delP;cases hk:numB k P.ms.length with
 |false =>
  simp only[xo,if_false];have HT:=zaa (fun (W:World) (hb:Below w.heap.size w W)=>Turn.of h hb);obtain⟨gt,tc,m,gv,vc,t,s,sv,tv,h⟩:=h;have c1:=zl7 k hk h;clear h hk hok
  go_enter Tryz.func57,Tryz.ntmps57
  go_wp2_with (first|(go_at_call 119;refine c1.mono ?_;rintro e w1 ⟨rfl,hb1⟩))
  go_ret;exact⟨rfl,HT.out _ (thn3 hb1 (bel1 _ _))⟩
 |true =>
  simp only[if_true];obtain⟨i,rfl,hi⟩:=zh6 hk;obtain⟨x,hx⟩:∃ x,P.ms[i]?=some x:=⟨P.ms[i]'hi,xg _⟩;obtain⟨o1,o2,o3,o4⟩:=hok;obtain⟨q1,q2,q3⟩:=o2 x (List.mem_of_getElem? hx);rw[xj,xf,hx];show Calls _ _ _ _ fun e W=>e=.returned (.int .i64 0)/\Turn w L r W (arrP { P with ms:=P.ms.eraseIdx i } x);obtain⟨gt,tc,m,gv,vc,t,s,sv,tv,h⟩:=h;have c1:=zl8 i x o1 hx h;have c2:=fun (W:World) (L':Nat->Nat) (m':Value) (hM:RunM W L' r { P with ms:=P.ms.eraseIdx i } gt tc m' gv vc t s sv tv)=>(zst (P:={ P with ms:=P.ms.eraseIdx i }) x ⟨q1,q2⟩ q3 o3 o4 hM).mono fun e W' q=>(⟨q.1,by obtain⟨m2,L2,k1,k2,k3⟩:=q.2;exact⟨L2,⟨_,_,_,_,_,_,_,_,_,k1⟩,k2,k3⟩⟩:e=Ending.returned (.tuple #[])/\Turn W L' r W' (arrP { P with ms:=P.ms.eraseIdx i } x));clear h hk hx o2 o3 o4 q3 q1 q2 hi o1;generalize arrP { P with ms:=P.ms.eraseIdx i } x=Q at *;generalize ({ P with ms:=P.ms.eraseIdx i }:zad)=P1 at *;obtain⟨xk,xn,xs,xi,xr⟩:=x;simp only at c1 c2
  go_enter Tryz.func57,Tryz.ntmps57
  go_wp2_with (first|(go_at_call 119;refine c1.mono ?_;rintro e w1 ⟨rfl,m1,L1,hM1,hL1,hC1⟩;have HM2:=zaa (hM1.keep (bel1 w1 (.cells #[.int .i64 xk,.int .i64 xn,.int .i64 xs,.int .i64 xi,.int .i64 xr] 100)))))
  go_region_with (go_at_call 120;refine(c2 _ _ _ HM2.out.drew).mono ?_;rintro e w3 ⟨rfl,ht3⟩)
  all_goals
   go_wp2_with fail
   go_ret;exact⟨rfl,Turn.trans hL1 ((hC1.mono fun b hb=>by omega).trans (Chg.of (bel1 _ _))) ht3.undrew⟩
theorem zs0 (k:Int)(hl:P.ms.length<=40)(h:RunE w L r P):Calls Tryz.prog 58 #[.pointer (some ⟨r,0,none⟩),.int .i64 k] w fun e W=>(∃ n,e=.returned (.int .i64 n))/\Turn w L r W (drpP P k):=by
 unfold drpP;cases hk:numB k P.ms.length with
 |false =>
  simp only[xo,if_false];have HT:=zaa (fun (W:World) (hb:Below w.heap.size w W)=>Turn.of h hb);obtain⟨gt,tc,m,gv,vc,t,s,sv,tv,h⟩:=h;have c1:=zl7 k hk h;clear h hk
  go_enter Tryz.func58,Tryz.ntmps58
  go_wp2_with (first|(go_at_call 119;refine c1.mono ?_;rintro e w1 ⟨rfl,hb1⟩))
  go_ret;exact⟨⟨_,rfl⟩,HT.out _ (by first|exact hb1|exact thn3 hb1 (bel1 _ _))⟩
 |true =>
  simp only[if_true];obtain⟨i,rfl,hi⟩:=zh6 hk;obtain⟨x,hx⟩:∃ x,P.ms[i]?=some x:=⟨P.ms[i]'hi,xg _⟩;rw[xj];obtain⟨gt,tc,m,gv,vc,t,s,sv,tv,h⟩:=h;have c1:=(zl8 i x hl hx h).mono fun e W q=>(⟨q.1,by obtain⟨m2,L2,k1,k2,k3⟩:=q.2;exact⟨L2,⟨_,_,_,_,_,_,_,_,_,k1⟩,k2,k3.mono fun b hb=>by omega⟩⟩:e=Ending.returned (.tuple #[.agg #[.int .i64 x.k,.int .i64 x.n,.int .i64 x.s,.int .i64 x.i,.int .i64 x.r],.bool true])/\Turn w L r W { P with ms:=P.ms.eraseIdx i });clear h hk hx;generalize ({ P with ms:=P.ms.eraseIdx i }:zad)=Q at *
  go_enter Tryz.func58,Tryz.ntmps58
  go_wp2_with (first|(go_at_call 119;refine c1.mono ?_;rintro e w1 ⟨rfl,ht1⟩;have HT:=zaa ht1;clear ht1))
  go_ret;exact⟨⟨_,rfl⟩,(by first|exact HT.out|exact HT.out.below (bel1 _ _))⟩
end
end Go.Proofs.YtkkekopomiehlabGreatDoor
