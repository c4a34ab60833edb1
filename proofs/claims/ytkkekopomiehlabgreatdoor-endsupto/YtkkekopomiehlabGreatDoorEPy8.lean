import Derived.Test.YtkkekopomiehlabGreatDoorEPv2
set_option linter.unusedVariables false
set_option linter.unusedSimpArgs false
set_option maxHeartbeats 40000000
set_option maxRecDepth 4000
open List renaming getElem?_eq_some_iff->xe,getElem?_eq_getElem->xf,getD_eq_getElem?_getD->xg,getElem?_map->xp,drop_eq_getElem_cons->xu,take_add_one->xv,length_take->xy,length_eraseIdx_le->xz,length_map->qd,getElem?_set->qf,find?_append->qg,take_length->qh,length_set->qk,map_set->qp
open Nat renaming lt_of_lt_of_le->xh,le_refl->xm,le_trans->qe,zero_le->qi
open Int renaming toNat_natCast->xj,le_refl->qj
open Bool renaming false_eq_true->xo
open Go.World.ownsRow renaming stored->xq,lt->qq
open ByteArray renaming empty->qm
open Go.Value renaming ownBlock->qn
open Go.World renaming setCell->qo
namespace Go.Proofs.YtkkekopomiehlabGreatDoor
section
open Go.RowKit
variable {w W:World}{L:Nat->Nat}{r:Nat}{P:zad}{gt tc:Nat}{m:Value}{gv vc:Nat}{t s:Value}{sv:List (Value×Value)}{tv:List (Int×Value)}
theorem RunM.svc (h:RunM w L r P gt tc m gv vc t s sv tv){i:Nat}{V:SrvD}(hV:P.vs[i]?=some V):∃ q:Value×Value,sv[i]?=some q/\w.cell? ⟨gv,i*2,none⟩=some q.1/\w.cell? ⟨gv,i*2+1,none⟩=some q.2/\Own w L (10+2*i) 266 2 q.1 V.ins.length (V.ins.flatMap insF)/\RelL w L q.2 V.rels:=by
 have hi:=(xe.1 hV).1;have hl:=h.sta.sl;rw[qd]at hl;obtain⟨q,hq⟩:∃ q,sv[i]?=some q:=⟨sv[i]'(by omega),xf _⟩;obtain⟨c0,c1⟩:=h.sta.srv i q hq;exact⟨q,hq,c0,c1,h.ins i V q hV hq,h.sta.rel i q V.rels hq (by rw[xp,hV];rfl)⟩
theorem zh3 {vs:List SrvD}{a b:Int}(h:hasB vs a b=true):∃ (i j:Nat) (V:SrvD) (x:InsD),a=i/\b=j/\vs[i]?=some V/\V.ins[j]?=some x/\insG vs a b=x:=by
 rw[zd4]at h;obtain⟨h1,h2,h3,h4⟩:=h;have e1:vs[a.toNat]?=some (vs.getD a.toNat srv0):=by rw[xg,xf (by omega)];rfl
 have e2:(vs.getD a.toNat srv0).ins[b.toNat]?=some (insG vs a b):=by
  unfold insG;rw[xg (l:=(vs.getD a.toNat srv0).ins),xf (by omega)];rfl
 exact⟨a.toNat,b.toNat,_,_,by omega,by omega,e1,e2,rfl⟩
theorem zhb (a b:Int)(hh:hasB P.vs a b=true)(h:RunM w L r P gt tc m gv vc t s sv tv):Calls Tryz.prog 188 #[.pointer (some ⟨r,0,none⟩),.int .i64 a,.int .i64 b] w fun e W=>e=.returned (.bool true)/\W=w:=by
 obtain⟨i,j,V,x,rfl,rfl,hV,hx,_⟩:=zh3 hh;obtain⟨q,hq,c0,c1,ho,_⟩:=h.svc hV;obtain⟨q1,q2⟩:=q;have hi:=(xe.1 hV).1;have hj:=(xe.1 hx).1;obtain⟨ad,cap,hsl,hc1,hc2⟩:=ho.len;simp only at hsl c0;subst hsl;have k14:w.cell? ⟨r,14,none⟩=some (.slice (some ⟨gv,0,none⟩) P.vs.length vc):=h.row.cell rfl;have hv:=h.vcl;have n1:=fun W=>za5 (i:Int) (P.vs.length:Int) W;rw[show numB (i:Int) (P.vs.length:Int)=true by unfold numB;simp;omega]at n1;have n2:=fun W=>za5 (j:Int) (V.ins.length:Int) W;rw[show numB (j:Int) (V.ins.length:Int)=true by unfold numB;simp;omega]at n2;have hx0:(0:Int)<=(i:Int):=by omega
 have hx1:(i:Int)<(P.vs.length:Int):=by omega
 clear h hh hV hx hq c1 ho hi;generalize P.vs.length=nv at *;generalize V.ins.length=ni at *
 go_enter Tryz.func188,Tryz.ntmps188
 go_wp2_with (first
  |(go_at_call 178;have hq:=hb1;refine(n2 _).mono ?_;rintro e _ ⟨rfl,rfl⟩)
  |(go_at_call 178;refine(n1 _).mono ?_;rintro e _ ⟨rfl,rfl⟩;have hb1:True:=trivial))
 go_ret;exact⟨rfl,rfl⟩
theorem zrs {vs:List SrvD}{i j:Nat}{V:SrvD}{x:InsD}(hV:vs[i]?=some V)(k:Nat):(setI vs (i:Int) (j:Int) x)[k]?=if k=i then some { V with ins:=V.ins.set j x } else vs[k]?:=by
 unfold setI;have e:vs.getD (i:Int).toNat srv0=V:=by rw[xg,xj,hV];rfl
 rw[e,xj,xj,qf];have hi:=(xe.1 hV).1;by_cases h:k=i
 ·subst h;rw[if_pos rfl,if_pos hi,if_pos rfl]
 ·rw[if_neg (fun q=>h q.symm),if_neg h]
theorem yacc {vs:List SrvD}{i j:Nat}{V:SrvD}{x:InsD}(hV:vs[i]?=some V):(setI vs (i:Int) (j:Int) x).map SrvD.rels=vs.map SrvD.rels:=by
 refine List.ext_getElem? fun k=>?_;rw[xp,xp,zrs hV];split
 ·rename_i h;subst h;rw[hV];rfl
 ·rfl
theorem RunM.fol (h:RunM w L r P gt tc m gv vc t s sv tv){i j:Nat}{V:SrvD}{x y:InsD}(hV:P.vs[i]?=some V)(hx:V.ins[j]?=some x){q:Value×Value}(hq:sv[i]?=some q){g cap:Nat}(hg:q.1=.slice (some ⟨g,0,none⟩) V.ins.length cap) :
  RunM ((w.setCell ⟨g,j*2,none⟩ (.int .i64 y.r)).setCell ⟨g,j*2+1,none⟩ (.int .i64 y.h)) L r { P with vs:=setI P.vs (i:Int) (j:Int) y } gt tc m gv vc t s sv tv/\Chg (fun b=>L b=10+2*i) w ((w.setCell ⟨g,j*2,none⟩ (.int .i64 y.r)).setCell ⟨g,j*2+1,none⟩ (.int .i64 y.h)):=by
 have ho:=h.ins i V q hV hq;rw[hg]at ho;have hlg:L g=10+2*i:=ho.2 g rfl;have hc:Chg (fun b=>L b=10+2*i) w ((w.setCell ⟨g,j*2,none⟩ (.int .i64 y.r)).setCell ⟨g,j*2+1,none⟩ (.int .i64 y.h)) :=
  ((Chg.refl (fun b=>L b=10+2*i) w).set (p:=⟨g,j*2,none⟩) (.inl hlg) _).set (p:=⟨g,j*2+1,none⟩) (.inl hlg) _
 have key:∀ k,k≠10+2*i->∀ b,L b=k->¬ L b=10+2*i:=fun k hk b hb e=>by omega
 refine⟨⟨?_,h.lr,fun b hb'=>h.fr b (qe hc.size hb'),xh h.gtl hc.size,xh h.gvl hc.size,by show (setI P.vs _ _ y).length<=vc;rw[zlk];exact h.vcl,?_,h.msg.chg hc (key 3 (by omega)),fun k V' q' h1 h2=>?_,h.top.chg hc (key 5 (by omega)),h.tk,fun k T q' h1 h2=>(h.rcs k T q' h1 h2).chg hc (key _ (by omega))⟩,hc⟩
 ·show RowIs _ r _ (RunC P.ti (.slice (some ⟨gt,0,none⟩) P.c.ts.length tc) P.c m (.slice (some ⟨gv,0,none⟩) (setI P.vs _ _ y).length vc) t s);rw[zlk];exact hc.row h.row (key 1 (by omega) r h.lr)
 ·show Sta _ L gt gv P.c.ts sv ((setI P.vs _ _ y).map SrvD.rels) s P.ss;rw[yacc hV];exact h.sta.chg hc (key 2 (by omega))
 ·have h3:(setI P.vs (i:Int) (j:Int) y)[k]?=some V':=h1;rw[zrs hV]at h3;split at h3
  ·rename_i e;subst e;obtain rfl:{ V with ins:=V.ins.set j y }=V':=by simpa using h3
   rw[hq]at h2;obtain rfl:q=q':=by simpa using h2
   rw[hg];have s1:=(xq ho.1 (j*2) (.int .i64 y.r)).1;have s2:=(xq s1 (j*2+1) (.int .i64 y.h)).1;have e1:=zeh (f:=insF) (k:=2) (fun _=>rfl) hx (j:=0) (u:=.int .i64 y.r) (y:=⟨y.r,x.h⟩) (by omega) rfl;rw[Nat.add_zero]at e1;have hx':(V.ins.set j ⟨y.r,x.h⟩)[j]?=some ⟨y.r,x.h⟩:=by rw[List.getElem?_set_self];exact(xe.1 hx).1
   have e2:=zeh (f:=insF) (k:=2) (fun _=>rfl) hx' (j:=1) (u:=.int .i64 y.h) (y:=y) (by omega) rfl;rw[e1,e2,List.set_set]at s2;refine⟨?_,fun b hb=>?_⟩
   ·show World.ownsRow _ 0 _ 2 _ (V.ins.set j y).length _;rw[qk];exact s2
   ·have:g=b:=by simpa[qn]using hb
    rw[<- this];exact hlg
  ·rename_i e;exact(h.ins k V' q' h3 h2).chg hc (key _ (by omega))
theorem zxd (x:MsgD)(hh:hasB P.vs x.s x.i=true)(hf:x.n<(insG P.vs x.s x.i).h)(h:RunM w L r P gt tc m gv vc t s sv tv):Calls Tryz.prog 185 #[.pointer (some ⟨r,0,none⟩),.agg #[.int .i64 x.k,.int .i64 x.n,.int .i64 x.s,.int .i64 x.i,.int .i64 x.r]] w fun e W=>e=.returned (.bool false)/\Below w.heap.size w W:=by
 obtain⟨xk,xn,xs,xi,xr⟩:=x;have hI:=fun (W:World) (hb:Below w.heap.size w W)=>zhb xs xi hh (h.keep hb);obtain⟨i,j,V,y,h1,h2,hV,hx,hy⟩:=zh3 hh;simp only at h1 h2 hy hf;rw[hy]at hf;subst h1 h2;obtain⟨q,hq,c0,c1,ho,_⟩:=h.svc hV;have hi:=(xe.1 hV).1;have hj:=(xe.1 hx).1;obtain⟨g,cap,hsl,hlg,hc1,hc2,lg,hcell,_⟩:=ho.some (by omega);rw[hsl]at c0;have d1:w.cell? ⟨g,j*2+1,none⟩=some (.int .i64 y.h):=hcell (j*2+1) _ (za2 (f:=insF) (fun _=>rfl) hx (by omega));have k14:w.cell? ⟨r,14,none⟩=some (.slice (some ⟨gv,0,none⟩) P.vs.length vc):=h.row.cell rfl;have hv:=h.vcl;have lr:=h.row.lt;have lv:=h.gvl;have hx0:(0:Int)<=(i:Int):=by omega
 have hx1:(i:Int)<(P.vs.length:Int):=by omega
 have hy0:(0:Int)<=(j:Int):=by omega
 have hy1:(j:Int)<(V.ins.length:Int):=by omega
 clear h hh hV hx hq c1 ho hi hj hcell hsl hy hlg;generalize P.vs.length=nv at *;generalize V.ins.length=ni at *;generalize y.h=hh at *
 go_enter Tryz.func185,Tryz.ntmps185
 go_wp2_with (first|(go_at_call 188;refine(hI _ (bel1 _ _)).mono ?_;rintro e _ ⟨rfl,rfl⟩))
 go_quiet (fail)
 go_wp2_with fail
 go_ret;exact⟨rfl,below_drewN (bel1 _ _) _⟩
theorem zxe (x:MsgD)(hh:hasB P.vs x.s x.i=true)(hf:¬ x.n<(insG P.vs x.s x.i).h)(h:RunM w L r P gt tc m gv vc t s sv tv):Calls Tryz.prog 185 #[.pointer (some ⟨r,0,none⟩),.agg #[.int .i64 x.k,.int .i64 x.n,.int .i64 x.s,.int .i64 x.i,.int .i64 x.r]] w fun e W=>e=.returned (.bool true)/\RunM W L r { P with vs:=setI P.vs x.s x.i ⟨x.r,x.n⟩ } gt tc m gv vc t s sv tv/\Chg (fun b=>10<=L b) w W:=by
 obtain⟨xk,xn,xs,xi,xr⟩:=x;have hI:=fun (W:World) (hb:Below w.heap.size w W)=>zhb xs xi hh (h.keep hb);obtain⟨i,j,V,y,h1,h2,hV,hx,hy⟩:=zh3 hh;simp only at h1 h2 hy hf ⊢;rw[hy]at hf;subst h1 h2;obtain⟨q,hq,c0,c1,ho,_⟩:=h.svc hV;have hi:=(xe.1 hV).1;have hj:=(xe.1 hx).1;obtain⟨g,cap,hsl,hlg,hc1,hc2,lg,hcell,hfz⟩:=ho.some (by omega);have HF:=zaa (fun n=>(((h.keep (bel1 w (.cells #[.int .i64 xk,.int .i64 xn,.int .i64 i,.int .i64 j,.int .i64 xr] 100))).out (S:=fun _=>False) ((Chg.refl _ _).drewN n) (fun _ q=>q.elim)).fol (y:=⟨xr,xn⟩) hV hx hq hsl));rw[hsl]at c0;have d0:w.cell? ⟨g,j*2,none⟩=some (.int .i64 y.r):=hcell (j*2+0) _ (za2 (f:=insF) (fun _=>rfl) hx (by omega));have d1:w.cell? ⟨g,j*2+1,none⟩=some (.int .i64 y.h):=hcell (j*2+1) _ (za2 (f:=insF) (fun _=>rfl) hx (by omega));have z0:=hfz (j*2);have z1:=hfz (j*2+1);have k14:w.cell? ⟨r,14,none⟩=some (.slice (some ⟨gv,0,none⟩) P.vs.length vc):=h.row.cell rfl;have hv:=h.vcl;have lr:=h.row.lt;have lv:=h.gvl;have hx0:(0:Int)<=(i:Int):=by omega
 have hx1:(i:Int)<(P.vs.length:Int):=by omega
 have hy0:(0:Int)<=(j:Int):=by omega
 have hy1:(j:Int)<(V.ins.length:Int):=by omega
 have hf':y.h<=xn:=by omega
 clear h hh hV hx hq c1 ho hi hj hcell hsl hy hfz hf;generalize P.vs.length=nv at *;generalize V.ins.length=ni at *;generalize y.h=hh at *;generalize y.r=yr at *
 go_enter Tryz.func185,Tryz.ntmps185
 go_wp2_with (first|(go_at_call 188;refine(hI _ (bel1 _ _)).mono ?_;rintro e _ ⟨rfl,rfl⟩))
 go_quiet (fail)
 go_wp2_with fail
 go_big_region
 go_wp2_with fail
 go_ret;obtain⟨hM,hC⟩:=HF.out (nq+1);exact⟨rfl,hM,(((Chg.of (S:=fun b=>10<=L b) (bel1 _ _)).drewN _)).trans (hC.mono fun k hk=>by omega)⟩
theorem RunM.drew (h:RunM w L r P gt tc m gv vc t s sv tv):RunM w.drew L r P gt tc m gv vc t s sv tv:=h.out (S:=fun _=>False) (Chg.refl _ _).drew (fun _ q=>q.elim)
theorem zo3 (c:CtlD)(x:MsgD)(ti:Int):(za4 c x ti).ts=c.ts:=by
 unfold za4;split
 ·split
  ·unfold finC;rw[(zcg _).1];rfl
  ·rfl
 ·rfl
theorem zs8 (x:MsgD)(hk:x.k=2)(hi:0<=x.i/\x.i<3)(hc:P.c.wk=true->zby P.c)(hb:0<=P.ti/\P.ti<=4000000000/\0<=P.c.rest/\P.c.rest<=4000000000)(h:RunM w L r P gt tc m gv vc t s sv tv):Calls Tryz.prog 120 #[.pointer (some ⟨r,0,none⟩),.agg #[.int .i64 x.k,.int .i64 x.n,.int .i64 x.s,.int .i64 x.i,.int .i64 x.r]] w fun e W=>e=.returned (.tuple #[])/\RunM W L r { P with c:=za4 P.c x P.ti } gt tc m gv vc t s sv tv/\Chg (fun b=>L b=1) w W:=by
 have hgr:r≠gt:=fun e=>by have h1:=h.lr;have h2:=h.sta.lt;rw[e]at h1;omega
 have hH:=fun (W:World) (h:RunM W L r P gt tc m gv vc t s sv tv)=>(zxm x P.ti hi hc hgr hb h.sta.tsk h.row).mono fun e W' q=>(⟨q.1,h.ctl (zo3 _ _ _) q.2.2 q.2.1,q.2.2⟩:e=Ending.returned (.tuple #[])/\RunM W' L r { P with c:=za4 P.c x P.ti } gt tc m gv vc t s sv tv/\Chg (·= r) W W');have hR:=zaa (h.keep (bel1 w (.cells #[.int .i64 x.k,.int .i64 x.n,.int .i64 x.s,.int .i64 x.i,.int .i64 x.r] 100)));have k0:w.cell? ⟨r,0,none⟩=some (.int .i64 P.ti):=h.row.cell rfl;have lr:=h.row.lt;have hl:=h.lr;obtain⟨xk,xn,xs,xi,xr⟩:=x;simp only at hk hH hR ⊢;subst hk;clear h hb hc hi;obtain⟨ti,hti⟩:∃ ti,P.ti=ti:=⟨_,rfl⟩;rw[hti]at k0 hH ⊢;clear hti
 go_enter Tryz.func120,Tryz.ntmps120
 go_wp2_with fail
 go_region_with (go_at_call 184;refine(hH _ hR.out.drew).mono ?_;rintro e w2 ⟨rfl,hr2,hc2⟩)
 all_goals
  go_wp2_with fail
  refine bodyPost_ret (v:=.tuple #[]) (results_none rfl _ _ _) rfl ?_;exact⟨rfl,hr2,((Chg.of (S:=fun b=>L b=1) (bel1 _ _)).drew).trans (hc2.mono fun b e=>by rw[e];exact hl)⟩
theorem ztb (x:MsgD)(hk:x.k≠2)(hh:hasB P.vs x.s x.i=true)(hf:x.n<(insG P.vs x.s x.i).h)(h:RunM w L r P gt tc m gv vc t s sv tv):Calls Tryz.prog 120 #[.pointer (some ⟨r,0,none⟩),.agg #[.int .i64 x.k,.int .i64 x.n,.int .i64 x.s,.int .i64 x.i,.int .i64 x.r]] w fun e W=>e=.returned (.tuple #[])/\Below w.heap.size w W:=by
 have hF:=fun (W:World) (hb:Below w.heap.size w W)=>zxd x hh hf (h.keep hb);obtain⟨xk,xn,xs,xi,xr⟩:=x;simp only at hk hF ⊢;clear h hf hh
 go_enter Tryz.func120,Tryz.ntmps120
 go_wp2_with (first|(go_at_call 185;refine(hF _ (bel1 _ _)).mono ?_;rintro e w2 ⟨rfl,hb2⟩))
 refine bodyPost_end (v:=.tuple #[]) (results_none rfl _ _ _) rfl ?_;exact⟨rfl,thn3 (bel1 _ _) hb2⟩
theorem zta (x:MsgD)(hk:x.k≠2)(hh:hasB P.vs x.s x.i=true)(hf:¬ x.n<(insG P.vs x.s x.i).h)(h:RunM w L r P gt tc m gv vc t s sv tv):Calls Tryz.prog 120 #[.pointer (some ⟨r,0,none⟩),.agg #[.int .i64 x.k,.int .i64 x.n,.int .i64 x.s,.int .i64 x.i,.int .i64 x.r]] w fun e W=>e=.returned (.tuple #[])/\∃ m' L',RunM W L' r { P with vs:=setI P.vs x.s x.i ⟨x.r,x.n⟩,ms:=za8 P.ms { x with k:=2 } } gt tc m' gv vc t s sv tv/\Lab w L L'/\Chg (fun b=>L b≠0) w W:=by
 have hF:=fun (W:World) (hb:Below w.heap.size w W)=>zxe x hh hf (h.keep hb);have hS:∀ (W:World),RunM W L r { P with vs:=setI P.vs x.s x.i ⟨x.r,x.n⟩ } gt tc m gv vc t s sv tv->Calls Tryz.prog 122 #[.pointer (some ⟨r,0,none⟩),.agg #[.int .i64 2,.int .i64 x.n,.int .i64 x.s,.int .i64 x.i,.int .i64 x.r]] W fun e W'=>(∃ b,e=.returned (.bool b))/\∃ m' L',RunM W' L' r { P with vs:=setI P.vs x.s x.i ⟨x.r,x.n⟩,ms:=za8 P.ms { x with k:=2 } } gt tc m' gv vc t s sv tv/\Lab W L L'/\Chg (fun b=>L b≠0) W W':=fun W hW=>by
  unfold za8;by_cases hl:40<=P.ms.length
  ·rw[if_pos hl];exact(zmd (P:={ P with vs:=setI P.vs x.s x.i ⟨x.r,x.n⟩ }) { x with k:=2 } hl hW).mono fun e W' q=>⟨⟨_,q.1⟩,m,L,hW.keep q.2,Lab.refl _ _,Chg.of q.2⟩
  ·rw[if_neg hl];refine(zme (P:={ P with vs:=setI P.vs x.s x.i ⟨x.r,x.n⟩ }) { x with k:=2 } (by show P.ms.length<40;omega) hW).mono fun e W' q=>?_;obtain⟨q1,m',L',q2,q3,q4⟩:=q;exact⟨⟨_,q1⟩,m',L',q2,q3,q4.mono fun b hb=>by omega⟩
 have lr:=h.row.lt;have hfr:=h.fr;obtain⟨xk,xn,xs,xi,xr⟩:=x;simp only at hk hF hS ⊢;clear h hf hh
 go_enter Tryz.func120,Tryz.ntmps120
 go_wp2_with (first
  |(go_at_call 185;refine(hF _ (bel1 _ _)).mono ?_;rintro e w2 ⟨rfl,hr2,hc2⟩;have Z2:=zaa (hc2.row (show RowIs (w.alloc (.cells #[.int .i64 xk,.int .i64 xn,.int .i64 xs,.int .i64 xi,.int .i64 xr] 100)) w.heap.size 100 [.int .i64 xk,.int .i64 xn,.int .i64 xs,.int .i64 xi,.int .i64 xr]from zal _ _) (by rw[hfr _ (xm _)];omega));have y0:=Z2.out.cell (j:=0) rfl;have y1:=Z2.out.cell (j:=1) rfl;have y2:=Z2.out.cell (j:=2) rfl;have y3:=Z2.out.cell (j:=3) rfl;have y4:=Z2.out.cell (j:=4) rfl;have f0:=Z2.out.frozen 0;have hX:=zaa ((Chg.refl (·= w.heap.size) w2).set (p:=⟨w.heap.size,0,none⟩) (.inl rfl) (.int .i64 2));have hr3:=zaa (hr2.out hX.out (fun b hb=>by rw[hb];exact hfr _ (xm _))))
  |(go_at_call 122;refine(hS _ hr3.out).mono ?_;rintro e w4 ⟨⟨bb,rfl⟩,m',L',hr4,hl4,hc4⟩))
 refine bodyPost_end (v:=.tuple #[]) (results_none rfl _ _ _) rfl ?_;have z2:=hc2.size;refine⟨rfl,m',L',hr4,fun b hb=>hl4 b ?_,((((Chg.of (S:=fun b=>L b≠0) (bel1 _ _)).trans (hc2.mono fun b hb=>by omega)).set (p:=⟨w.heap.size,0,none⟩) (.inr (xm _)) _)).trans hc4⟩;simp[qo]at z2 ⊢;omega
theorem zs9 (x:MsgD)(hi:0<=x.i/\x.i<3)(hh:hasB P.vs x.s x.i=true)(hc:P.c.wk=true->zby P.c)(hb:0<=P.ti/\P.ti<=4000000000/\0<=P.c.rest/\P.c.rest<=4000000000)(h:RunM w L r P gt tc m gv vc t s sv tv):Calls Tryz.prog 120 #[.pointer (some ⟨r,0,none⟩),.agg #[.int .i64 x.k,.int .i64 x.n,.int .i64 x.s,.int .i64 x.i,.int .i64 x.r]] w fun e W=>e=.returned (.tuple #[])/\∃ m' L',RunM W L' r (arrP P x) gt tc m' gv vc t s sv tv/\Lab w L L'/\Chg (fun b=>L b≠0) w W:=by
 unfold arrP;by_cases hk:x.k=2
 ·rw[if_pos hk];exact(zs8 x hk hi hc hb h).mono fun e W q=>⟨q.1,m,L,q.2.1,Lab.refl _ _,q.2.2.mono fun b hb=>by omega⟩
 ·rw[if_neg hk];by_cases hf:x.n<(insG P.vs x.s x.i).h
  ·have e:folB P.vs x=false:=by unfold folB;rw[hh,decide_eq_true hf];rfl
   rw[e];exact(ztb x hk hh hf h).mono fun e W q=>⟨q.1,m,L,by simpa using h.keep q.2,Lab.refl _ _,Chg.of q.2⟩
  ·have e:folB P.vs x=true:=by unfold folB;rw[hh,decide_eq_false hf];rfl
   rw[if_pos e];have e2:folV P.vs x=setI P.vs x.s x.i ⟨x.r,x.n⟩:=by unfold folV;rw[if_pos e]
   rw[e2];exact zta x hk hh hf h
end
section
open Go.RowKit
variable {w W:World}{L L':Nat->Nat}{r:Nat}{P:zad}{gt tc:Nat}{m:Value}{gv vc:Nat}{t s:Value}{sv:List (Value×Value)}{tv:List (Int×Value)}
theorem RunM.topi (h:RunM w L r P gt tc m gv vc t s sv tv){i:Nat}{T:TopD}(hT:P.ts[i]?=some T):∃ (g cap:Nat) (v:Value),t=.slice (some ⟨g,0,none⟩) P.ts.length cap/\P.ts.length<=cap/\L g=5/\g<w.heap.size/\tv[i]?=some (T.keep,v)/\w.cell? ⟨g,i*2,none⟩=some (.int .i64 T.keep)/\w.cell? ⟨g,i*2+1,none⟩=some v/\w.frozen? ⟨g,i*2+1,none⟩=false/\Own w L (11+2*i) 197 3 v T.recs.length (T.recs.flatMap recF):=by
 have hi:=(xe.1 hT).1;have htk:=h.tk;obtain⟨q,hq,hk⟩:∃ q,tv[i]?=some q/\q.1=T.keep:=by
  have:=congrArg (fun l=>l[i]?) htk;simp only[xp,hT]at this;cases hq:tv[i]? with
  |none=>rw[hq]at this;cases this
  |some q=>rw[hq]at this;exact⟨q,rfl,by simpa using this⟩
 obtain⟨k,v⟩:=q;simp only at hk;subst hk;obtain⟨g,cap,e,hg,hc1,hc2,lg,hcell,hfz⟩:=h.top.some (by omega);exact⟨g,cap,v,e,hc1,hg,lg,hq,hcell (i*2+0) _ (za2 (f:=topF) (k:=2) (fun _=>rfl) hq (by omega)),hcell (i*2+1) _ (za2 (f:=topF) (k:=2) (fun _=>rfl) hq (by omega)),hfz _,h.rcs i T _ hT hq⟩
theorem RunM.tops (h:RunM w L r P gt tc m gv vc t s sv tv){i:Nat}{T T':TopD}{v':Value}(hT:P.ts[i]?=some T)(hk:T'.keep=T.keep)(hc:Chg (fun b=>L b=5\/L b=11+2*i) w W)(hL:Lab w L L')(hf:∀ b,W.heap.size<=b->L' b=0)
  (ho:Own W L' (11+2*i) 197 3 v' T'.recs.length (T'.recs.flatMap recF)) (ht:Own W L' 5 216 2 t P.ts.length ((tv.set i (T.keep,v')).flatMap topF)):RunM W L' r { P with ts:=P.ts.set i T' } gt tc m gv vc t s sv (tv.set i (T.keep,v')):=by
 have hi:=(xe.1 hT).1;obtain⟨_,_,v,_,_,_,_,hq,_⟩:=h.topi hT;refine⟨hc.row h.row (by rw[h.lr];omega),(hL r h.row.lt).trans h.lr,hf,xh h.gtl hc.size,xh h.gvl hc.size,h.vcl,h.sta.to h.gtl h.gvl hc (fun b hb=>by omega) hL,h.msg.to hc (fun b hb=>by omega) hL,fun k V q h1 h2=>(h.ins k V q h1 h2).to hc (fun b hb=>by omega) hL,?_,?_,fun k T2 q h1 h2=>?_⟩
 ·show Own W L' 5 _ 2 t (P.ts.set i T').length _;rw[qk];exact ht
 ·show (tv.set i (T.keep,v')).map Prod.fst=(P.ts.set i T').map TopD.keep;rw[qp,qp,h.tk,hk]
 ·have h3:(P.ts.set i T')[k]?=some T2:=h1;rw[qf]at h3 h2;have hil:i<tv.length:=(xe.1 hq).1;by_cases e:i=k
  ·subst e;rw[if_pos rfl,if_pos hi]at h3;rw[if_pos rfl,if_pos hil]at h2;obtain rfl:T'=T2:=by simpa using h3
   obtain rfl:(T.keep,v')=q:=by simpa using h2
   exact ho
  ·rw[if_neg e]at h3 h2;exact(h.rcs k T2 q h3 h2).to hc (fun b hb=>by omega) hL
theorem zw7 {l:List RecD}{p:RecD->Bool}{i:Nat}{x:RecD}(h:l[i]?=some x):(l.take (i+1)).filter p=if p x then (l.take i).filter p++[x] else (l.take i).filter p:=by
 rw[xv,h,List.filter_append];show _++[x].filter p=_;cases hp:p x<;>simp[hp]
theorem Tryz.infoRecK:(Tryz.prog.info? 197).map (fun i=>(i.zero,i.size,i.bytes))=some (some (.agg #[.string ⟨#[]⟩,.string ⟨#[]⟩,.int .i64 0]),3,40):=by kernel_rfl
theorem zxf {i:Nat}{T T':TopD}{n base g cap:Nat}{v:Value}(h:RunM w L r P gt tc m gv vc t s sv tv)(hT:P.ts[i]?=some T)(hk:T'.keep=T.keep)(hb:Below w.heap.size w W)(ht:t=.slice (some ⟨g,0,none⟩) P.ts.length cap)(hn:n=T'.recs.length)(hown:W.ownsRow base 197 3 v n (T'.recs.flatMap recF))(hz:w.heap.size<=base) :
  ∃ L',RunM (W.setCell ⟨g,i*2+1,none⟩ v) L' r { P with ts:=P.ts.set i T' } gt tc m gv vc t s sv (tv.set i (T.keep,v))/\Lab w L L'/\Chg (fun b=>L b=5\/L b=11+2*i) w (W.setCell ⟨g,i*2+1,none⟩ v):=by
 obtain⟨g',cap',v0,e,hc1,hg,lg,hq,_⟩:=h.topi hT;obtain⟨rfl,rfl⟩:g=g'/\cap=cap':=by rw[e]at ht;simpa[eq_comm]using ht
 have hlt:=qq hown;have hL:Lab w L (fun b=>if v.ownBlock=some b then 11+2*i else L b):=fun b hb=>by
  show (if v.ownBlock=some b then 11+2*i else L b)=L b;rw[if_neg (fun e=>by have:=(hlt b e).1;omega)]
 have hc:Chg (fun b=>L b=5\/L b=11+2*i) w (W.setCell ⟨g,i*2+1,none⟩ v):=(Chg.of (S:=fun b=>L b=5\/L b=11+2*i) hb).set (p:=⟨g,i*2+1,none⟩) (.inl (.inl hg)) _;have hzb:=hb.size;refine⟨_,h.tops hT hk hc hL (fun b hb'=>?_) ⟨?_,fun b hb=>if_pos hb⟩ ⟨?_,fun b hb=>?_⟩,hL,hc⟩
 ·have hz1:W.heap.size<=b:=by simpa[qo]using hb'
  show (if v.ownBlock=some b then 11+2*i else L b)=0;rw[if_neg (fun e=>by have:=(hlt b e).2;omega)];exact h.fr b (by omega)
 ·have:=((Chg.refl (·= g) W).set (p:=⟨g,i*2+1,none⟩) (.inl rfl) v).own hown (fun b hb e=>by have:=(hlt b hb).1;omega);rw[<- hn];exact this.mono (qi _)
 ·have h5:=zas h.top.1 hb;rw[ht]at h5 ⊢;have h6:=(xq h5 (i*2+1) v).1;rw[zeh (f:=topF) (k:=2) (fun _=>rfl) hq (j:=1) (u:=v) (y:=(T.keep,v)) (by omega) rfl]at h6;exact h6
 ·rw[ht]at hb;have:g=b:=by simpa[qn]using hb
  subst this;exact(hL g lg).trans hg
theorem zxh {i:Nat}{T:TopD}{g cap:Nat}(time:Int)(hT:P.ts[i]?=some T)(hk:T.keep<=0)(ht:t=.slice (some ⟨g,0,none⟩) P.ts.length cap)(h:RunM w L r P gt tc m gv vc t s sv tv):Calls Tryz.prog 182 #[.pointer (some ⟨g,i*2,none⟩),.int .i64 time] w fun e W=>e=.returned (.tuple #[])/\W=w:=by
 obtain⟨g',cap',v0,e,hc1,hg,lg,hq,c0,c1,_⟩:=h.topi hT;obtain⟨rfl,rfl⟩:g=g'/\cap=cap':=by rw[e]at ht;simpa[eq_comm]using ht
 clear h hT hq ht e;generalize T.keep=K at *
 go_enter Tryz.func182,Tryz.ntmps182
 go_wp2_with fail
 refine bodyPost_ret (v:=.tuple #[]) (results_none rfl _ _ _) rfl ?_;exact⟨rfl,rfl⟩
theorem zxg {i:Nat}{T:TopD}{g cap:Nat}(time:Int)(hT:P.ts[i]?=some T)(hk:0<T.keep)(ht:t=.slice (some ⟨g,0,none⟩) P.ts.length cap)(hti:0<=time/\time<=4000000000)(hl:T.recs.length<=12)(hrt:∀ x∈T.recs,0<=x.ti/\x.ti<=4000000000)(h:RunM w L r P gt tc m gv vc t s sv tv) :
  Calls Tryz.prog 182 #[.pointer (some ⟨g,i*2,none⟩),.int .i64 time] w fun e W=>e=.returned (.tuple #[])/\∃ v L',RunM W L' r { P with ts:=P.ts.set i (fgtT time T) } gt tc m gv vc t s sv (tv.set i (T.keep,v))/\Lab w L L'/\Chg (fun b=>L b=5\/L b=11+2*i) w W:=by
 obtain⟨iM,hiM,zM0,zM1,zM2⟩:=info_parts Tryz.infoRecK;obtain⟨g',cap',v0,e,hc1,hg,lg,hq,c0,c1,x1,ho⟩:=h.topi hT;obtain⟨rfl,rfl⟩:g=g'/\cap=cap':=by rw[e]at ht;simpa[eq_comm]using ht
 obtain⟨ad,rcap,hv,hr1,hr2⟩:=ho.len;subst hv;have H:=zaa h;have HT:=zaa hT;have HTT:=zaa ht;have HO:=zaa ho;have HRT:=zaa hrt;have e2:Hid ((fgtT time T).recs=T.recs.filter fun x=>decide (time-x.ti<T.keep)):=by show _=_;unfold fgtT;rw[if_neg (by omega)]
 have e3:Hid ((fgtT time T).keep=T.keep):=by show _=_;unfold fgtT;split<;>rfl
 obtain⟨K,hK⟩:∃ K,T.keep=K:=⟨_,rfl⟩;obtain⟨R,hR⟩:∃ R,T.recs=R:=⟨_,rfl⟩;rw[hK]at hk c0 e2;rw[hR]at c1 hl hr1 HO HRT e2;have HK:=zaa hK;have HR:=zaa hR;obtain⟨n,hn⟩:∃ n,n=R.length:=⟨_,rfl⟩;rw[<- hn]at c1 hl hr1 HO;have HN:=zaa hn;clear h hT hq ht e ho hrt hK hR hn;have O0:=zaa (World.ownsRow_made (base:=w.heap.size) (e:=197) (size:=3) w #[] 0 (xm _) (by unfold maxLen;omega) rfl)
 go_enter Tryz.func182,Tryz.ntmps182
 go_wp2_with fail
 go_loopw [4,18] (fun vt vi wr=>∃ j:Nat,j<=n/\vi=.int .i64 j/\wr.ownsRow w.heap.size 197 3 vt ((R.take j).filter fun x=>decide (time-x.ti<K)).length (((R.take j).filter fun x=>decide (time-x.ti<K)).flatMap recF)/\Below w.heap.size w wr) (fun _ j _=>n-(intOf j).toNat)
 case atStart=>exact⟨0,qi _,rfl,by simpa using O0.out,bel1 _ _⟩
 case round =>
  obtain⟨j,hj,rfl,hown,hb⟩:=hrel
  rename World=>w5
  have HOWN:=zaa hown;have HB:=zaa hb;have zb:=hb.size;have hx0 := znn j;have hll:((R.take j).filter fun x=>decide (time-x.ti<K)).length<=12:=by
   have:=List.length_filter_le (fun x:RecD=>decide (time-x.ti<K)) (R.take j);rw[xy]at this;have:=HN.out;omega
  by_cases hlt:j<n
  ·obtain⟨x,hx⟩:∃ x,R[j]?=some x:=⟨R[j]'(by rw[<- HN.out];exact hlt),xf _⟩;obtain⟨gr,cp,hsl,_,_,_,lgr,hcell,_⟩:=(HO.out.keep hb).some (by omega);obtain⟨rfl,rfl⟩:ad=some ⟨gr,0,none⟩/\rcap=cp:=by simpa using hsl
   have d0:=hcell (j*3+0) _ (za2 (f:=recF) (k:=3) (fun _=>rfl) hx (by omega));have d1:=hcell (j*3+1) _ (za2 (f:=recF) (k:=3) (fun _=>rfl) hx (by omega));have d2:=hcell (j*3+2) _ (za2 (f:=recF) (k:=3) (fun _=>rfl) hx (by omega));have hb0:=HRT.out x (List.mem_of_getElem? hx);have HE:=zaa (zw7 (p:=fun x=>decide (time-x.ti<K)) hx);obtain⟨xc,xd,xt⟩:=x;have d0:w5.cell? ⟨gr,j*3,none⟩=some (.string xc):=d0;have d1:w5.cell? ⟨gr,j*3+1,none⟩=some (.string xd):=d1;have d2:w5.cell? ⟨gr,j*3+2,none⟩=some (.int .i64 xt):=d2;simp only at hb0 HE;have c05:=zab hb c0;have hx1:(j:Int)<(n:Int):=by omega
   have nsz:gr≠w5.heap.size:=by omega
   have nsz2:g≠w5.heap.size:=by omega
   have lg5:g<w5.heap.size:=by omega
   clear hown hb hx hsl hcell c0 c1 x1;by_cases hp:time-xt<K
   ·generalize hJ:((R.take j).filter fun x=>decide (time-x.ti<K)).length=J at *
    go_wp2_with fail
    go_quiet (fail)
    go_wp2_with (at_builtin;refine wpList_append_lies _ rfl _ _ _ rfl w.heap.size 197 iM _ 3 40 Tryz.underlying194 hiM zM0 zM1 zM2 rfl (by omega) u4 J _ rfl ((HOWN.out.alloc _).alloc _) ⟨w5.heap.size+1,0,none⟩ 1 1 [.string xc,.string xd,.int .i64 xt] rfl rfl (World.news_of_block (nw2 _ _ _)) (by simp[Value.oneCell']) (by omega) (by unfold maxLen;omega) (by omega) (by simp;omega) (w5.heap.size+2) (by simp) ?_;intro g2 cap2 w8 hown2 hgrow2 hat2 hlt2)
    go_roundw
    case rel =>
     refine⟨j+1,by omega,by go_num,?_,?_⟩
     ·rw[HE.out,if_pos (decide_eq_true hp),List.length_append,hJ,List.flatMap_append];simpa[recF]using hown2
     ·exact Below.grown ((below_drewN (HB.out.alloc (by omega) _) _).alloc (by simp;omega) _) hgrow2 (by simp;omega) (fun k hk=>(HOWN.out.lt k hk).1)
    case measure=>simp[intOf];omega
   ·have hp':K<=time-xt:=by omega
    go_wp2_with fail
    go_quiet (fail)
    go_wp2_with fail
    go_roundw
    case rel =>
     refine⟨j+1,by omega,by go_num,?_,below_drewN (HB.out.alloc (by omega) _) _⟩;rw[HE.out,if_neg (by simpa using hp)];exact HOWN.out.alloc _
    case measure=>simp[intOf];omega
  ·obtain rfl:n=j:=by omega
   obtain⟨a',cap',hu⟩:∃ a' cap',u4=.slice a' ((R.take n).filter fun x=>decide (time-x.ti<K)).length cap':=by
    rcases hown.2 with⟨h1,h2⟩|⟨g,cap',cur,h1,_⟩
    ·exact⟨none,0,by rw[h1,h2]⟩
    ·exact⟨_,cap',h1⟩
   have HE:Hid ((R.take n).filter (fun x=>decide (time-x.ti<K))=(fgtT time T).recs):=by show _=_;rw[e2.out,HN.out,qh]
   have c15:=zab hb c1;have x15:w5.frozen? ⟨g,i*2+1,none⟩=false:=by rw[hb.frozen (p:=⟨g,i*2+1,none⟩) lg];exact x1
   generalize hJ:((R.take n).filter fun x=>decide (time-x.ti<K)).length=J at *;subst hu;have ho:w5.ownsRow w.heap.size 197 3 (.slice a' J cap') J ((fgtT time T).recs.flatMap recF):=by
    have:=HOWN.out;rw[HE.out]at this;exact this
   have hn':J=(fgtT time T).recs.length:=by rw[<- HE.out];exact hJ.symm
   obtain⟨L',hM,hL,hC⟩:=zxf H.out HT.out e3.out hb HTT.out hn' ho (xm _);have HX:=zaa (⟨hM,hL,hC⟩:RunM (w5.setCell ⟨g,i*2+1,none⟩ (.slice a' J cap')) L' r { P with ts:=P.ts.set i (fgtT time T) } gt tc m gv vc t s sv (tv.set i (T.keep,.slice a' J cap'))/\Lab w L L'/\Chg (fun b=>L b=5\/L b=11+2*i) w (w5.setCell ⟨g,i*2+1,none⟩ (.slice a' J cap')));clear hown hb hM hL hC ho hn' hll hJ HOWN HO
   go_wp2_with fail
   refine bodyPost_end (v:=.tuple #[]) (results_none rfl _ _ _) rfl ?_;exact⟨rfl,_,L',HX.out⟩
theorem zhc (k:Int)(h:RunM w L r P gt tc m gv vc t s sv tv):Calls Tryz.prog 189 #[.pointer (some ⟨r,0,none⟩),.int .i64 k] w fun e W=>e=.returned (.bool (numB k P.ts.length))/\w=W:=by
 obtain⟨ad,cap,rfl,hc1,hc2⟩:=h.top.len;have k15:w.cell? ⟨r,15,none⟩=some (.slice ad P.ts.length cap):=h.row.cell rfl;have n1:=fun W=>za5 k (P.ts.length:Int) W;clear h;generalize P.ts.length=n at *
 go_enter Tryz.func189,Tryz.ntmps189
 go_wp2_with (first|(go_at_call 178;refine(n1 _).mono ?_;rintro e _ ⟨rfl,rfl⟩))
 go_ret;exact⟨rfl,rfl⟩
theorem ztr (k:Nat)(T:TopD)(hT:P.ts[k]?=some T)(h:RunM w L r P gt tc m gv vc t s sv tv):Calls Tryz.prog 127 #[.pointer (some ⟨r,0,none⟩),.int .i64 k] w fun e W=>∃ v,e=.returned v/\Own w L (11+2*k) 197 3 v T.recs.length (T.recs.flatMap recF)/\w=W:=by
 obtain⟨g,cap,v0,rfl,hc1,hg,lg,hq,c0,c1,x1,ho⟩:=h.topi hT;have hk:=(xe.1 hT).1;have k15:w.cell? ⟨r,15,none⟩=some (.slice (some ⟨g,0,none⟩) P.ts.length cap):=h.row.cell rfl;have n1:=zhc (k:Int) h;rw[show numB (k:Int) (P.ts.length:Int)=true by unfold numB;simp;omega]at n1;have hx0:(0:Int)<=(k:Int):=by omega
 have hx1:(k:Int)<(P.ts.length:Int):=by omega
 have HO:=zaa ho;clear h hT hq ho hk;generalize P.ts.length=n at *
 go_enter Tryz.func127,Tryz.ntmps127
 go_wp2_with (first|(go_at_call 189;refine n1.mono ?_;rintro e _ ⟨rfl,rfl⟩))
 go_ret;exact⟨_,rfl,HO.out,rfl⟩
end
section
open Go.RowKit
theorem Chg.step {S:Nat->Prop}{L L':Nat->Nat}{w w1 W:World}(h:Chg (fun b=>L b≠0) w w1)(hL:Lab w L L')(k:Chg S w1 W)(hS:∀ b,S b->L' b≠0):Chg (fun b=>L b≠0) w W :=
 ⟨k.os.trans h.os,k.tape.trans h.tape,k.output.trans h.output,qe h.size k.size,fun b hb hn=>(k.block b (xh hb h.size) (fun q=>hS b q (by rw[hL b hb];simpa using hn))).trans (h.block b hb hn)⟩
variable {w W:World}{L L':Nat->Nat}{r:Nat}{P:zad}{gt tc:Nat}{m:Value}{gv vc:Nat}{t s:Value}{sv:List (Value×Value)}{tv:List (Int×Value)}
theorem RunM.time (h:RunM w L r P gt tc m gv vc t s sv tv)(x:Int):RunM (w.setCell ⟨r,0,none⟩ (.int .i64 x)) L r { P with ti:=x } gt tc m gv vc t s sv tv/\Chg (fun b=>L b≠0) w (w.setCell ⟨r,0,none⟩ (.int .i64 x)):=by
 have hc:=(Chg.refl (·= r) w).set (p:=⟨r,0,none⟩) (.inl rfl) (.int .i64 x);have key:∀ k,k≠1->∀ b,L b=k->¬ b=r:=fun k hk b hb e=>by subst e;rw[h.lr]at hb;omega
 exact⟨⟨h.row.set 0 _,h.lr,fun b hb'=>h.fr b (qe hc.size hb'),xh h.gtl hc.size,xh h.gvl hc.size,h.vcl,h.sta.chg hc (key 2 (by omega)),h.msg.chg hc (key 3 (by omega)),fun i V q h1 h2=>(h.ins i V q h1 h2).chg hc (key _ (by omega)),h.top.chg hc (key 5 (by omega)),h.tk,fun i T q h1 h2=>(h.rcs i T q h1 h2).chg hc (key _ (by omega))⟩,hc.mono fun b e=>by rw[e,h.lr];omega⟩
def fgtU (ti:Int)(ts:List TopD)(j:Nat):List TopD:=(ts.take j).map (fgtT ti)++ts.drop j
theorem zw1 (ti:Int)(ts:List TopD):fgtU ti ts 0=ts:=by simp[fgtU]
theorem zwx (ti:Int)(ts:List TopD):fgtU ti ts ts.length=ts.map (fgtT ti):=by simp[fgtU]
theorem zwz {ti:Int}{ts:List TopD}{j:Nat}(hj:j<=ts.length):(fgtU ti ts j).length=ts.length:=by simp[fgtU];omega
theorem zwy {ti:Int}{ts:List TopD}{j:Nat}{T:TopD}(h:ts[j]?=some T):(fgtU ti ts j)[j]?=some T:=by
 have hj:=(xe.1 h).1;unfold fgtU;rw[List.getElem?_append_right (by simp;omega)];simp only[qd,xy,List.getElem?_drop];rw[show j+(j-min j ts.length)=j by omega];exact h
theorem zw0 {ti:Int}{ts:List TopD}{j:Nat}{T:TopD}(h:ts[j]?=some T):fgtU ti ts (j+1)=(fgtU ti ts j).set j (fgtT ti T):=by
 have hj:=(xe.1 h).1;have hd:ts.drop j=T::ts.drop (j+1):=by rw[xu hj];congr 1;rw[xf hj]at h;simpa using h
 unfold fgtU;rw[xv,h,List.map_append,hd,List.set_append_right _ _ (by simp;omega)];simp only[qd,xy];rw[show j-min j ts.length=0 by omega,List.set_cons_zero];simp
theorem zmm (c:CtlD)(ti:Int):(actC c ti).ts=c.ts:=by
 have e:∀ c:CtlD,(cmdC c).ts=c.ts:=fun c=>by unfold cmdC;split<;>rfl
 have e2:(actA c ti).ts=c.ts:=by unfold actA;split<;>rfl
 unfold actC;split
 ·rfl
 ·split
  ·rw[e,e2]
  ·exact e2
structure zhh (P:zad):Prop where
 ti:0<=P.ti/\P.ti<4000000000
 nu:0<=P.c.nu/\P.c.nu<=4000000000
 cur:zaj P.c=false->zby P.c
 ts4:P.ts.length<=4
 rcs:∀ (i:Nat) (T:TopD),P.ts[i]?=some T->T.recs.length<=12/\∀ x∈T.recs,0<=x.ti/\x.ti<=4000000000
theorem zmc (x:MsgD)(h:RunM w L r P gt tc m gv vc t s sv tv):Calls Tryz.prog 122 #[.pointer (some ⟨r,0,none⟩),.agg #[.int .i64 x.k,.int .i64 x.n,.int .i64 x.s,.int .i64 x.i,.int .i64 x.r]] w fun e W=>e=.returned (.bool (decide (P.ms.length<40)))/\∃ m' L',RunM W L' r { P with ms:=za8 P.ms x } gt tc m' gv vc t s sv tv/\Lab w L L'/\Chg (fun b=>L b=1\/L b=3) w W:=by
 unfold za8;by_cases hl:40<=P.ms.length
 ·rw[if_pos hl,decide_eq_false (by omega)];exact(zmd x hl h).mono fun e W' q=>⟨q.1,m,L,h.keep q.2,Lab.refl _ _,Chg.of q.2⟩
 ·rw[if_neg hl,decide_eq_true (by omega)];exact zme x (by omega) h
end
section
open Go.RowKit
variable {w W:World}{L L':Nat->Nat}{r:Nat}{P:zad}{gt tc:Nat}{m:Value}{gv vc:Nat}{t s:Value}{sv:List (Value×Value)}{tv:List (Int×Value)}
theorem zqd (a b:Int)(hh:hasB P.vs a b=true)(h:RunM w L r P gt tc m gv vc t s sv tv):Calls Tryz.prog 174 #[.pointer (some ⟨r,0,none⟩),.int .i64 a,.int .i64 b] w fun e W=>e=.returned (.tuple #[.int .i64 (insG P.vs a b).r,.bool true])/\w=W:=by
 have hI:=zhb a b hh h;obtain⟨i,j,V,y,h1,h2,hV,hx,hy⟩:=zh3 hh;rw[hy];subst h1 h2;obtain⟨q,hq,c0,c1,ho,_⟩:=h.svc hV;have hi:=(xe.1 hV).1;have hj:=(xe.1 hx).1;obtain⟨g,cap,hsl,hlg,hc1,hc2,lg,hcell,_⟩:=ho.some (by omega);rw[hsl]at c0;have d0:w.cell? ⟨g,j*2,none⟩=some (.int .i64 y.r):=hcell (j*2+0) _ (za2 (f:=insF) (fun _=>rfl) hx (by omega));have k14:w.cell? ⟨r,14,none⟩=some (.slice (some ⟨gv,0,none⟩) P.vs.length vc):=h.row.cell rfl;have hv:=h.vcl;have hx0:(0:Int)<=(i:Int):=by omega
 have hx1:(i:Int)<(P.vs.length:Int):=by omega
 have hy0:(0:Int)<=(j:Int):=by omega
 have hy1:(j:Int)<(V.ins.length:Int):=by omega
 clear h hh hV hx hq c1 ho hi hj hcell hsl hy hlg;generalize P.vs.length=nv at *;generalize V.ins.length=ni at *;generalize y.r=yr at *
 go_enter Tryz.func174,Tryz.ntmps174
 go_wp2_with (first|(go_at_call 188;refine hI.mono ?_;rintro e W' ⟨rfl,hW⟩;obtain rfl:=hW.symm))
 go_ret2
 exact⟨rfl,rfl⟩
def pinO (ps:List PinD)(t:Int):PinD:=match ps.find? (fun p=>p.t == t) with
 |some p=>p
 |none=>⟨t,-1,-1⟩
theorem zw9 {ps:List PinD}{f:PinD->Bool}{j:Nat}{p:PinD}(hj:ps[j]?=some p)(h:(ps.take j).find? f=none):(f p=true->ps.find? f=some p)/\(f p=false->(ps.take (j+1)).find? f=none):=by
 have hlt:=(xe.1 hj).1;have e:ps=ps.take j++p::ps.drop (j+1):=by
  conv=>lhs;rw[<- List.take_append_drop j ps,xu hlt]
  congr 2
  rw[xf hlt]at hj;simpa using hj
 refine⟨fun hf=>?_,fun hf=>?_⟩
 ·rw[e,qg,h];simp[hf]
 ·rw[xv,hj,qg,h];simp[hf]
theorem zqn (i j rl:Nat)(V:SrvD)(y:InsD)(ps:List PinD)(top:Int)(hV:P.vs[i]?=some V)(hy:V.ins[j]?=some y)(hr:y.r=rl)(hps:V.rels[rl]?=some ps)(hl:ps.length<=2000000)(h:RunM w L r P gt tc m gv vc t s sv tv):Calls Tryz.prog 190 #[.pointer (some ⟨r,0,none⟩),.int .i64 i,.int .i64 j,.int .i64 top] w fun e W=>e=.returned (.agg #[.int .i64 (pinO ps top).t,.int .i64 (pinO ps top).w,.int .i64 (pinO ps top).r])/\Below w.heap.size w W:=by
 have hi:=(xe.1 hV).1;have hjl:=(xe.1 hy).1;have hrl:=(xe.1 hps).1;have hh:hasB P.vs (i:Int) (j:Int)=true:=by
  rw[zd4,xj,xg,hV];show 0<=_/\_<_/\0<=_/\(j:Int)<(V.ins.length:Int);omega
 have hg:insG P.vs (i:Int) (j:Int)=y:=by
  unfold insG;rw[xj,xj,xg (l:=P.vs),hV];show V.ins.getD j ins0=y;rw[xg,hy];rfl
 have hR:=fun (W:World) (hb:Below w.heap.size w W)=>zqd (i:Int) (j:Int) hh (h.keep hb);rw[hg,hr]at hR;obtain⟨q,hq,c0,c1,ho,ra,rc,hrel,hrc⟩:=h.svc hV;obtain⟨b,o,pa,pc,h1,h2,h3,h4⟩:=hrc rl ps hps;subst h1;rw[hrel]at c1;have k14:w.cell? ⟨r,14,none⟩=some (.slice (some ⟨gv,0,none⟩) P.vs.length vc):=h.row.cell rfl;have hv:=h.vcl;have lr:=h.row.lt;have lgv:=h.gvl;have lb:=zag h3;have n1:=fun W=>za5 (rl:Int) (V.rels.length:Int) W;rw[show numB (rl:Int) (V.rels.length:Int)=true by unfold numB;simp;omega]at n1;have hx0:(0:Int)<=(i:Int):=by omega
 have hx1:(i:Int)<(P.vs.length:Int):=by omega
 have hy0:(0:Int)<=(rl:Int):=by omega
 have hy1:(rl:Int)<(V.rels.length:Int):=by omega
 obtain⟨R,hRR⟩:∃ R,R=pinO ps top:=⟨_,rfl⟩;rw[<- hRR];have HR:=zaa hRR;have H4:=zaa h4;clear h hh hV hq c0 ho hi hjl hrl hps hrc hrel hy hr hg h4 hRR;generalize P.vs.length=nv at *;generalize V.rels.length=nr at *;obtain⟨n,hn⟩:∃ n,n=ps.length:=⟨_,rfl⟩;rw[<- hn]at h3 hl;have HN:=zaa hn;clear hn;have B2:=zaa (thn3 (bel1 w (.cells #[.int .i64 0,.int .i64 0,.int .i64 0] 165)) (bel1 _ (.cells #[.int .i64 top,.int .i64 (-1),.int .i64 (-1)] 165)));obtain⟨Rt,Rw,Rr⟩:=R;simp only
 go_enter Tryz.func190,Tryz.ntmps190
 go_wp2_with (first
  |(go_at_call 174;refine(hR _ B2.out).mono ?_;rintro e _ ⟨rfl,rfl⟩)
  |(go_at_call 178;refine(n1 _).mono ?_;rintro e _ ⟨rfl,rfl⟩))
 go_loopw [52] (fun vi wr=>∃ k:Nat,k<=n/\vi=.int .i64 k/\Hid ((ps.take k).find? (fun p=>p.t == top)=none)/\Below ((w.alloc (.cells #[.int .i64 0,.int .i64 0,.int .i64 0] 165)).alloc (.cells #[.int .i64 top,.int .i64 (-1),.int .i64 (-1)] 165)).heap.size ((w.alloc (.cells #[.int .i64 0,.int .i64 0,.int .i64 0] 165)).alloc (.cells #[.int .i64 top,.int .i64 (-1),.int .i64 (-1)] 165)) wr) (fun i _=>n-(intOf i).toNat)
 case atStart=>exact⟨0,qi _,rfl,(by show _=_;simp),Below.refl _ _⟩
 case round =>
  obtain⟨k,hk,rfl,hno,hb⟩:=hrel
  rename World=>w5
  have hz0 := znn k;have hbw:=thn3 B2.out hb;have Z5:=zaa (((show RowIs (w.alloc (.cells #[.int .i64 0,.int .i64 0,.int .i64 0] 165)) w.heap.size 165 [.int .i64 0,.int .i64 0,.int .i64 0]from zal _ _).keep (bel1 _ _)).keep hb);have N5:=zaa ((show RowIs ((w.alloc (.cells #[.int .i64 0,.int .i64 0,.int .i64 0] 165)).alloc (.cells #[.int .i64 top,.int .i64 (-1),.int .i64 (-1)] 165)) (w.heap.size+1) 165 [.int .i64 top,.int .i64 (-1),.int .i64 (-1)]from nw2 _ _ _).keep hb);have y0:=Z5.out.cell (j:=0) rfl;have y1:=Z5.out.cell (j:=1) rfl;have y2:=Z5.out.cell (j:=2) rfl;have f0:=Z5.out.frozen 0;have f1:=Z5.out.frozen 1;have f2:=Z5.out.frozen 2;have z5:=hb.size;have ls:=Z5.out.lt;by_cases hlt:k<n
  ·obtain⟨p,hp⟩:∃ p,ps[k]?=some p:=⟨ps[k]'(by rw[<- HN.out];exact hlt),xf _⟩;obtain⟨b',o',e1,e2,d0,d1,d2⟩:=H4.out k p hp;have lb':=zag d0;have d0:=zab hbw d0;have d1:=zab hbw d1;have d2:=zab hbw d2;subst e1;obtain⟨fy,fn⟩:=zw9 hp hno.out;have hz1:(k:Int)<(n:Int):=by omega
   have lb5:=zag d0;have hR2:p.t=top->Hid ((⟨Rt,Rw,Rr⟩:PinD)=p):=fun e=>by
    show _=_;rw[HR.out];unfold pinO;rw[fy (by simpa using e)]
   have hN2:¬ p.t=top->Hid ((ps.take (k+1)).find? (fun p=>p.t == top)=none):=fun e=>fn (by simpa using e);have HB:=zaa hb;have HBW:=zaa hbw;clear hno fy fn hb hbw hp;obtain⟨pt,pw,pr⟩:=p;simp only at d0 d1 d2 hR2 hN2;by_cases he:pt=top
   ·have hq:=hR2 he;obtain⟨rfl,rfl,rfl⟩:Rt=pt/\Rw=pw/\Rr=pr:=by have:=hq.out;simpa using this
    clear hq hR2 hN2 HR
    go_wp2_with fail
    subst he;have Z7:=(((Z5.out.set 0 (.int .i64 Rt)).set 1 (.int .i64 Rw)).set 2 (.int .i64 Rr)).keep (bel1 _ (.cells #[.int .i64 Rt,.int .i64 Rw,.int .i64 Rr] 165));have o0:=Z7.cell (j:=0) rfl;have o1:=Z7.cell (j:=1) rfl;have o2:=Z7.cell (j:=2) rfl;refine bodyPost_ret (v:=.agg #[.int .i64 Rt,.int .i64 Rw,.int .i64 Rr]) (by simp[results,Tryz.results190,go_sem,o0,o1,o2]) rfl ⟨rfl,?_⟩;exact thn3 (((HBW.out.setCell (p:=⟨w.heap.size,0,none⟩) (xm _) _).setCell (p:=⟨w.heap.size,1,none⟩) (xm _) _).setCell (p:=⟨w.heap.size,2,none⟩) (xm _) _) (bel1 _ _)
   ·have hq:=hN2 he;clear hN2 hR2
    go_wp2_with fail
    go_roundw
    case rel=>exact⟨k+1,by omega,by go_num,hq,HB.out.alloc (by omega) _⟩
    case measure=>simp[intOf];omega
  ·obtain rfl:n=k:=by omega
   have hq:Hid ((⟨Rt,Rw,Rr⟩:PinD)=⟨top,-1,-1⟩):=by
    show _=_;have:=hno.out;rw[HN.out,qh]at this;rw[HR.out];unfold pinO;rw[this]
   obtain⟨rfl,rfl,rfl⟩:Rt=top/\Rw=-1/\Rr=-1:=by have:=hq.out;simpa using this
   have q0:=N5.out.cell (j:=0) rfl;have q1:=N5.out.cell (j:=1) rfl;have q2:=N5.out.cell (j:=2) rfl;have HBW:=zaa hbw;clear hq hno HR hb hbw
   go_wp2_with fail
   have Z7:=((Z5.out.set 0 (.int .i64 Rt)).set 1 (.int .i64 (-1))).set 2 (.int .i64 (-1));have o0:=Z7.cell (j:=0) rfl;have o1:=Z7.cell (j:=1) rfl;have o2:=Z7.cell (j:=2) rfl;refine bodyPost_ret (v:=.agg #[.int .i64 Rt,.int .i64 (-1),.int .i64 (-1)]) (by simp[results,Tryz.results190,go_sem,o0,o1,o2]) rfl ⟨rfl,?_⟩;exact((HBW.out.setCell (p:=⟨w.heap.size,0,none⟩) (xm _) _).setCell (p:=⟨w.heap.size,1,none⟩) (xm _) _).setCell (p:=⟨w.heap.size,2,none⟩) (xm _) _
def schO (ss:List ByteArray)(k:Int):ByteArray:=if numB k ss.length then ss.getD k.toNat qm else qm
theorem zrp (k:Int)(h:RunM w L r P gt tc m gv vc t s sv tv):Calls Tryz.prog 191 #[.pointer (some ⟨r,0,none⟩),.int .i64 k] w fun e W=>e=.returned (.tuple #[.string (schO P.ss k),.bool (numB k P.ss.length)])/\w=W:=by
 obtain⟨sa,sc,rfl,hs⟩:=h.sta.sch;have k16:w.cell? ⟨r,16,none⟩=some (.slice sa P.ss.length sc):=h.row.cell rfl;have n1:=fun W=>za5 k (P.ss.length:Int) W;unfold schO;cases hk:numB k P.ss.length with
 |false =>
  rw[hk]at n1;rw[if_neg (by simp)];clear h hs hk;generalize P.ss.length=n at *
  go_enter Tryz.func191,Tryz.ntmps191
  go_wp2_with (first|(go_at_call 178;refine(n1 _).mono ?_;rintro e _ ⟨rfl,rfl⟩))
  go_ret2
  exact⟨rfl,rfl⟩
 |true =>
  rw[hk]at n1;rw[if_pos rfl];unfold numB at hk;simp at hk;obtain⟨i,rfl⟩:∃ i:Nat,k=i:=⟨k.toNat,by omega⟩;obtain⟨x,hx⟩:∃ x,P.ss[i]?=some x:=⟨P.ss[i]'(by omega),xf _⟩;obtain⟨b,o,rfl,_,d0⟩:=hs i x hx;rw[xj,xg,hx];show Calls _ _ _ _ fun e W=>e=.returned (.tuple #[.string x,.bool true])/\w=W;have hx0:(0:Int)<=(i:Int):=by omega
  have hx1:(i:Int)<(P.ss.length:Int):=by omega
  clear h hs hk hx;generalize P.ss.length=n at *
  go_enter Tryz.func191,Tryz.ntmps191
  go_wp2_with (first|(go_at_call 178;refine(n1 _).mono ?_;rintro e _ ⟨rfl,rfl⟩))
  go_ret2
  exact⟨rfl,rfl⟩
theorem zt1 (i j rl:Nat)(V:SrvD)(y:InsD)(ps:List PinD)(top:Int)(hV:P.vs[i]?=some V)(hy:V.ins[j]?=some y)(hr:y.r=rl)(hps:V.rels[rl]?=some ps)(hl:ps.length<=2000000)(h:RunM w L r P gt tc m gv vc t s sv tv):Calls Tryz.prog 160 #[.pointer (some ⟨r,0,none⟩),.int .i64 i,.int .i64 j,.int .i64 top] w fun e W=>e=.returned (.tuple #[.string (schO P.ss (pinO ps top).w),.bool (numB (pinO ps top).w P.ss.length)])/\Below w.heap.size w W:=by
 have hP:=zqn i j rl V y ps top hV hy hr hps hl h;have hS:=fun (W:World) (hb:Below w.heap.size w W)=>zrp (pinO ps top).w (h.keep hb);clear h;obtain⟨R,hR⟩:∃ R,R=pinO ps top:=⟨_,rfl⟩;rw[<- hR]at hP hS ⊢;clear hR;obtain⟨Rt,Rw,Rr⟩:=R;simp only at hP hS ⊢;generalize schO P.ss _=X at *;generalize numB _ _=Y at *
 go_enter Tryz.func160,Tryz.ntmps160
 go_wp2_with (first
  |(go_at_call 190;refine hP.mono ?_;rintro e w1 ⟨rfl,hb1⟩)
  |(go_at_call 191;refine(hS _ (thn3 hb1 (bel1 _ _))).mono ?_;rintro e _ ⟨rfl,rfl⟩))
 go_ret2
 exact⟨rfl,thn3 hb1 (bel1 _ _)⟩
theorem zmb (i j rl:Nat)(V:SrvD)(y:InsD)(ps:List PinD)(top:Int)(hV:P.vs[i]?=some V)(hy:V.ins[j]?=some y)(hr:y.r=rl)(hps:V.rels[rl]?=some ps)(hl:ps.length<=2000000)(h:RunM w L r P gt tc m gv vc t s sv tv):Calls Tryz.prog 126 #[.pointer (some ⟨r,0,none⟩),.int .i64 i,.int .i64 j,.int .i64 top] w fun e W=>e=.returned (.tuple #[.string (schO P.ss (pinO ps top).r),.bool (numB (pinO ps top).r P.ss.length)])/\Below w.heap.size w W:=by
 have hP:=zqn i j rl V y ps top hV hy hr hps hl h;have hS:=fun (W:World) (hb:Below w.heap.size w W)=>zrp (pinO ps top).r (h.keep hb);clear h;obtain⟨R,hR⟩:∃ R,R=pinO ps top:=⟨_,rfl⟩;rw[<- hR]at hP hS ⊢;clear hR;obtain⟨Rt,Rw,Rr⟩:=R;simp only at hP hS ⊢;generalize schO P.ss _=X at *;generalize numB _ _=Y at *
 go_enter Tryz.func126,Tryz.ntmps126
 go_wp2_with (first
  |(go_at_call 190;refine hP.mono ?_;rintro e w1 ⟨rfl,hb1⟩)
  |(go_at_call 191;refine(hS _ (thn3 hb1 (bel1 _ _))).mono ?_;rintro e _ ⟨rfl,rfl⟩))
 go_ret2
 exact⟨rfl,thn3 hb1 (bel1 _ _)⟩
end
section
open Go.RowKit
variable {X:WayD}{W:Nat->Int->Int->RecD->Prop}{P:zad}
def dlvN:Nat->zad->zad
 |0,P=>P
 |n+1,P=>if P.ms=[] then P else dlvN n (delP P 0)
def quiP (P:zad):zad:=tckP (dlvN 80 P)
def potM (m:MsgD):Nat:=if m.k=2 then 1 else 2
def pot (ms:List MsgD):Nat:=(ms.map potM).sum
theorem yaao (ms:List MsgD):pot ms<=2*ms.length:=by
 induction ms with
 |nil=>simp[pot]
 |cons m l ih =>
  simp only[pot,List.map_cons,List.sum_cons,List.length_cons]at *;have:potM m<=2:=by unfold potM;split<;>omega
  omega
theorem yaan (a b:List MsgD):pot (a++b)=pot a+pot b:=by simp[pot]
theorem zin {ms:List MsgD}(h:ms.length<=40)(m:MsgD):(za8 ms m).length<=40:=by
 unfold za8;split
 ·exact h
 ·simp;omega
theorem zj6 {P:zad}{m:MsgD}{l:List MsgD}(h:P.ms=m::l):delP P 0=arrP { P with ms:=l } m:=by
 unfold delP;rw[if_pos (by unfold numB;rw[h];simp),h];rfl
theorem zuj (P:zad)(m:MsgD):(arrP P m).ms=P.ms\/(m.k≠2/\(arrP P m).ms=za8 P.ms { m with k:=2 }):=by
 unfold arrP;split
 ·exact .inl rfl
 ·rename_i hk;split
  ·exact .inr ⟨hk,rfl⟩
  ·exact .inl rfl
theorem zv6 {P:zad}(h:P.ms≠[])(h40:P.ms.length<=40):pot (delP P 0).ms<pot P.ms/\(delP P 0).ms.length<=40:=by
 cases e:P.ms with
 |nil=>exact absurd e h
 |cons m l =>
  rw[e]at h40;simp at h40;rw[zj6 e];have hp:pot (m::l)=potM m+pot l:=by simp[pot]
  rw[hp];have h0:1<=potM m:=by unfold potM;split<;>omega
  rcases zuj { P with ms:=l } m with q|⟨hk,q⟩
  ·rw[q];exact⟨by show pot l<_;omega,by show l.length<=40;omega⟩
  ·rw[q];have h2:potM m=2:=by unfold potM;rw[if_neg hk]
   refine⟨?_,zin (by show l.length<=40;omega) _⟩;show pot (za8 l _)<_;unfold za8;split
   ·omega
   ·rw[yaan];have:pot [({ m with k:=2 }:MsgD)]=1:=rfl;omega
theorem zn1:∀ (n:Nat) (P:zad),pot P.ms<=n->P.ms.length<=40->(dlvN n P).ms=[]
 |0,P,h,_=>by
  cases e:P.ms with
  |nil=>exact e
  |cons m l =>
   exfalso;rw[e]at h;have hp:pot (m::l)=potM m+pot l:=by simp[pot]
   have h0:1<=potM m:=by unfold potM;split<;>omega
   omega
 |n+1,P,h,h40=>by
  unfold dlvN;split
  ·rename_i e;exact e
  ·rename_i e;obtain⟨h1,h2⟩:=zv6 e h40;exact zn1 n _ (by omega) h2
theorem zj7 {P:zad}(h:P.ms.length<=40):(dlvN 80 P).ms=[]:=zn1 80 P (by have:=yaao P.ms;omega) h
theorem zhy {P:zad}(h:P.ms=[]):∀ n,dlvN n P=P
 |0=>rfl
 |n+1=>by unfold dlvN;rw[if_pos h]
structure Ext (P:zad):Prop where
 l40:P.ms.length<=40
 ub:P.c.wk=true->cmdB P.c=true
 ur:P.c.un<=P.ti+P.c.rest
 r6:P.c.rest<=6
 r0:0<=P.c.rest
def Mov (X:WayD)(c:CtlD):Int:=if c.st=1 then X.n-c.pos else if c.st=2 then c.pos else 0
def zcw (c:CtlD):Int:=(if 0<(curT c).z/\c.a0=false then 1 else 0)+(if 1<(curT c).z/\c.a1=false then 1 else 0)+(if 2<(curT c).z/\c.a2=false then 1 else 0)
theorem zm8 {c:CtlD}(hz:(curT c).z<=3):cmdB c=true↔0<zcw c:=by
 unfold cmdB zcw frst;cases c.a0<;>cases c.a1<;>cases c.a2<;>simp<;>(try split)<;>(try split)<;>(try split)<;>omega
theorem zpc (c:CtlD):zcw c<=3:=by
 unfold zcw;split<;>split<;>split<;>omega
theorem zx6 {c:CtlD}(hz:(curT c).z<=3)(hb:cmdB c=true):zcw (ansC c (frst c.a0 c.a1 c.a2 (curT c).z))=zcw c-1:=by
 have hc:curT (ansC c (frst c.a0 c.a1 c.a2 (curT c).z))=curT c:=zgc rfl rfl rfl;unfold zcw;rw[hc];unfold cmdB at hb;have hb:=of_decide_eq_true hb;unfold ansC;simp only;unfold frst at *;generalize (curT c).z=z at *;generalize c.a0=a0 at *;generalize c.a1=a1 at *;generalize c.a2=a2 at *;have:z<=0\/z=1\/z=2\/z=3:=by omega
 rcases this with h|rfl|rfl|rfl
 ·rw[if_neg (by omega),if_neg (by omega),if_neg (by omega)]at hb;omega
 all_goals (cases a0<;>cases a1<;>cases a2<;>simp at hb ⊢)
theorem zxj {a0 a1 a2:Bool}{z:Int}(h:frst a0 a1 a2 z≠z):frst a0 a1 a2 z<z:=by
 unfold frst at *;split at h
 ·rename_i q;rw[if_pos q];omega
 ·rename_i q;rw[if_neg q];split at h
  ·rename_i q;rw[if_pos q];omega
  ·rename_i q;rw[if_neg q];split at h
   ·rename_i q;rw[if_pos q];omega
   ·exact absurd rfl h
theorem zf1 {vs:List SrvD}{c:CtlD}(h:Shp X vs c)(ho:zaj c=false):cmdB (begC c)=true:=by
 have hst:c.st=1\/c.st=2:=by have:=h.st;unfold zaj at ho;simp at ho;omega
 obtain⟨t,ht,e1,e2,e3,e4,e5,e6,e7⟩:=zgd h hst;have hc:curT (begC c)=curT c:=zgc rfl rfl rfl;unfold cmdB;rw[hc];have:frst (begC c).a0 (begC c).a1 (begC c).a2 (curT c).z=0:=by
  unfold frst;rw[if_pos ⟨by omega,rfl⟩]
 rw[this];exact decide_eq_true (by omega)
theorem Ext.drp (h:Ext P)(k:Int):Ext (drpP P k):=by
 unfold drpP;split
 ·refine⟨?_,h.ub,h.ur,h.r6,h.r0⟩;have:=h.l40;show (P.ms.eraseIdx k.toNat).length<=40;have:=xz P.ms k.toNat;omega
 ·exact h
theorem Ext.cpy (h:Ext P)(k:Int):Ext (cpyP P k):=by
 unfold cpyP;split
 ·exact⟨zin h.l40 _,h.ub,h.ur,h.r6,h.r0⟩
 ·exact h
theorem zxn {c:CtlD}{m:MsgD}{ti:Int}(hu:c.wk=true->cmdB c=true)(hr:c.un<=ti+c.rest):((za4 c m ti).wk=true->cmdB (za4 c m ti)=true)/\(za4 c m ti).un<=ti+(za4 c m ti).rest/\(za4 c m ti).rest=c.rest:=by
 unfold za4;split
 ·split
  ·have e:=zcg { ansC c m.i with wk:=false,pos:=(if (ansC c m.i).st=2 then (ansC c m.i).pos-1 else (ansC c m.i).pos+1),un:=ti+(ansC c m.i).rest };unfold finC;refine⟨fun q=>?_,?_,e.2.2.2.2.2.1⟩
   ·rw[e.2.2.1]at q;cases q
   ·rw[e.2.2.2.2.2.2.1,e.2.2.2.2.2.1];exact qj _
  ·rename_i hf;exact⟨fun _=>decide_eq_true (zxj hf),hr,rfl⟩
 ·exact⟨hu,hr,rfl⟩
theorem Ext.arr (h:Ext P)(m:MsgD):Ext (arrP P m):=by
 unfold arrP;split
 ·obtain⟨a,b,c⟩:=zxn (m:=m) h.ub h.ur;exact⟨h.l40,a,b,by show (za4 P.c m P.ti).rest<=6;rw[c];exact h.r6,by show 0<=(za4 P.c m P.ti).rest;rw[c];exact h.r0⟩
 ·split
  ·exact⟨zin h.l40 _,h.ub,h.ur,h.r6,h.r0⟩
  ·exact h
theorem Ext.del (h:Ext P)(k:Int):Ext (delP P k):=by
 unfold delP;split
 ·refine Ext.arr (P:={ P with ms:=P.ms.eraseIdx k.toNat }) ⟨?_,h.ub,h.ur,h.r6,h.r0⟩ _;have:=h.l40;show (P.ms.eraseIdx k.toNat).length<=40;have:=xz P.ms k.toNat;omega
 ·exact h
theorem Ext.pau (h:Ext P)(on:Bool):Ext (pauP P on):=⟨h.l40,h.ub,h.ur,h.r6,h.r0⟩
theorem Ext.wrt (h:Ext P)(t:Nat)(sc da:ByteArray):Ext (wrtP P t sc da):=⟨h.l40,h.ub,h.ur,h.r6,h.r0⟩
theorem Ext.crs (hi:PInv X W P)(h:Ext P):Ext (crsP P):=by
 unfold crsP crsC;split
 ·exact h
 ·rename_i ho;split
  ·exact⟨h.l40,fun _=>zf1 hi.sh (by simpa using ho),h.ur,h.r6,h.r0⟩
  ·rename_i hw;exact⟨h.l40,fun q=>absurd q hw,qj _,h.r6,h.r0⟩
theorem Ext.trn (hi:PInv X W P)(h:Ext P)(h1:P.c.st=1):Ext (trnP P):=by
 have hst:=hi.sh.st;unfold trnP zc9;by_cases hw:P.c.wk=true
 ·rw[if_pos hw];have hpos:P.c.pos<X.n:=by omega
  have hp:=hi.sh.p0;rw[zr4 (by show 0<P.c.pos+1;omega) rfl];have hs:Shp X P.vs { P.c with st:=2,pos:=P.c.pos+1 }:=⟨hi.sh.len,hi.sh.tsk,by show 0<=P.c.pos+1;omega,by show P.c.pos+1<=X.n;omega,.inr (.inl ⟨rfl,by show 0<P.c.pos+1;omega⟩),hi.sh.ba⟩;exact⟨h.l40,fun _=>zf1 hs (by unfold zaj;simp),h.ur,h.r6,h.r0⟩
 ·rw[if_neg hw];obtain⟨e1,e2,e3,e4,e5,e6,e7,e8⟩:=zcg { P.c with st:=2 };refine⟨h.l40,fun q=>?_,?_,?_,?_⟩
  ·have q:(zat { P.c with st:=2 }).wk=true:=q;rw[e3]at q;exact absurd q hw
  ·show (zat { P.c with st:=2 }).un<=P.ti+(zat { P.c with st:=2 }).rest;rw[e7,e6];exact h.ur
  ·show (zat { P.c with st:=2 }).rest<=6;rw[e6];exact h.r6
  ·show 0<=(zat { P.c with st:=2 }).rest;rw[e6];exact h.r0
theorem zt5 {vs:List SrvD}{c:CtlD}{ti:Int}(hs:Shp X vs c)(hu:c.wk=true->cmdB c=true):((actC c ti).wk=true->cmdB (actC c ti)=true)/\(actC c ti).un=c.un/\(actC c ti).rest=c.rest:=by
 have cc:∀ c:CtlD,(cmdC c).un=c.un/\(cmdC c).rest=c.rest/\cmdB (cmdC c)=cmdB c:=fun c=>by
  unfold cmdC;split
  iterate 2
   ·exact⟨rfl,rfl,rfl⟩
 unfold actC;split
 ·exact⟨hu,rfl,rfl⟩
 ·rename_i hb;have ho:zaj c=false:=by
   cases e:zaj c with
   |false=>rfl
   |true=>rw[e]at hb;simp at hb
  have hA:((actA c ti).wk=true->cmdB (actA c ti)=true)/\(actA c ti).un=c.un/\(actA c ti).rest=c.rest:=by
   unfold actA;split
   ·exact⟨fun _=>zf1 hs ho,rfl,rfl⟩
   ·exact⟨hu,rfl,rfl⟩
  split
  ·obtain⟨a,b,d⟩:=cc (actA c ti);exact⟨fun q=>by rw[d];exact hA.1 (by assumption),by rw[a];exact hA.2.1,by rw[b];exact hA.2.2⟩
  ·exact hA
theorem Ext.tck (hi:PInv X W P)(h:Ext P):Ext (tckP P):=by
 obtain⟨a,b,c⟩:=zt5 (ti:=P.ti+1) hi.sh h.ub;unfold tckP;refine⟨?_,a,?_,by show (actC P.c (P.ti+1)).rest<=6;rw[c];exact h.r6,by show 0<=(actC P.c (P.ti+1)).rest;rw[c];exact h.r0⟩
 ·show (if actB P.c (P.ti+1) then za8 P.ms (actM P.c (P.ti+1)) else P.ms).length<=40;split
  ·exact zin h.l40 _
  ·exact h.l40
 ·show (actC P.c (P.ti+1)).un<=P.ti+1+(actC P.c (P.ti+1)).rest;rw[b,c];have:=h.ur;omega
theorem zj8:∀ (n:Nat) {P:zad},PInv X W P->Ext P->PInv X W (dlvN n P)/\Ext (dlvN n P)
 |0,P,hi,he=>⟨hi,he⟩
 |n+1,P,hi,he=>by
  unfold dlvN;split
  ·exact⟨hi,he⟩
  ·exact zj8 n (hi.del 0) (he.del 0)
structure Good (X:WayD)(W:Nat->Int->Int->RecD->Prop)(P:zad):Prop where
 inv:PInv X W P
 ext:Ext P
 pa:P.c.pa=false
 wh:zaj P.c=true\/(zaj P.c=false/\P.c.wk=true/\P.ms=[⟨1,P.c.nu,(curT P.c).s,frst P.c.a0 P.c.a1 P.c.a2 (curT P.c).z,(curT P.c).r⟩]/\P.c.ba<P.c.nu)\/(zaj P.c=false/\P.c.wk=false/\P.ms=[]/\P.ti<P.c.un)
def mu (X:WayD)(P:zad):Int:=if zaj P.c then 0 else 9*(Mov X P.c-1)+(if P.c.wk then zcw P.c else 3+(P.c.un-P.ti))
theorem Shp.mov {vs:List SrvD}{c:CtlD}(h:Shp X vs c)(ho:zaj c=false):1<=Mov X c/\Mov X c<=X.n:=by
 have h1:=h.p0;have h2:=h.pn;have h3:=h.st;unfold zaj at ho;simp at ho;unfold Mov;split
 ·omega
 ·split<;>omega
theorem zsb (hi:PInv X W P)(he:Ext P)(hp:P.c.pa=false)(hm:P.ms=[]):Good X W (tckP P)/\mu X (tckP P)<=(if zaj P.c then 0 else 9*(Mov X P.c-1)+(if P.c.wk then zcw P.c else if P.c.un<=P.ti+1 then 3 else 2+(P.c.un-P.ti))):=by
 have gi:=hi.tck;have ge:=he.tck hi;have e0:(tckP P).c=actC P.c (P.ti+1):=rfl;have e1:(tckP P).ms=if actB P.c (P.ti+1) then za8 P.ms (actM P.c (P.ti+1)) else P.ms:=rfl
 have e2:(tckP P).ti=P.ti+1:=rfl;rw[hm]at e1;generalize tckP P=Q at gi ge e0 e1 e2;cases ho:zaj P.c with
 |true =>
  have ea:actC P.c (P.ti+1)=P.c:=by unfold actC;rw[ho];simp
  rw[ea]at e0;refine⟨⟨gi,ge,by rw[e0];exact hp,.inl (by rw[e0];exact ho)⟩,?_⟩;unfold mu;rw[e0,ho];simp
 |false =>
  have hpo:(P.c.pa||zaj P.c)=false:=by rw[hp,ho];rfl
  have key:∀ c:CtlD,c=actA P.c (P.ti+1)->c.wk=true->cmdB c=true->c.pa=false->zaj c=false->Mov X c=Mov X P.c->c.ba<=c.nu->Good X W Q/\mu X Q<=9*(Mov X P.c-1)+zcw c:=fun c hc hw hb hpa hov hmv hba=>by
   have ea:actC P.c (P.ti+1)={ c with nu:=c.nu+1 }:=by
    unfold actC;rw[hpo,<- hc,if_neg (by simp),if_pos hw];unfold cmdC;rw[if_pos hb]
   have eb:actB P.c (P.ti+1)=true:=by unfold actB;rw[hpo,<- hc,hw,hb];rfl
   have em:actM P.c (P.ti+1)=cmdM c:=by unfold actM;rw[hpo,<- hc,if_neg (by simp),if_pos hw]
   rw[eb,em]at e1;rw[ea]at e0;have hm2:cmdM c=⟨1,c.nu+1,(curT c).s,frst c.a0 c.a1 c.a2 (curT c).z,(curT c).r⟩:=by unfold cmdM;rw[if_pos hb]
   have hcur:curT Q.c=curT c:=by rw[e0];exact zgc rfl rfl rfl
   refine⟨⟨gi,ge,by rw[e0];exact hpa,.inr (.inl ⟨by rw[e0];exact hov,by rw[e0];exact hw,?_,by rw[e0];show c.ba<c.nu+1;omega⟩)⟩,?_⟩
   ·rw[hcur,e0,e1,hm2];rfl
   ·unfold mu;have:zaj Q.c=false:=by rw[e0];exact hov
    rw[this];have:Q.c.wk=true:=by rw[e0];exact hw
    rw[this];have:zcw Q.c=zcw c:=by rw[e0];rfl
    rw[this];have:Mov X Q.c=Mov X c:=by rw[e0];rfl
    rw[this,hmv];simp
  simp only[xo,if_false];cases hw:P.c.wk with
  |true =>
   have hA:P.c=actA P.c (P.ti+1):=by unfold actA;rw[if_neg (by rw[hw];simp)]
   exact key P.c hA hw (he.ub hw) hp ho rfl hi.sh.ba
  |false =>
   by_cases hu:P.c.un<=P.ti+1
   ·have hA:begC P.c=actA P.c (P.ti+1):=by unfold actA;rw[if_pos ⟨hw,hu⟩]
    obtain⟨k1,k2⟩:=key (begC P.c) hA rfl (zf1 hi.sh ho) hp ho rfl (qj _);refine⟨k1,?_⟩;rw[if_pos hu];have:=zpc (begC P.c);simp;omega
   ·have hA:actA P.c (P.ti+1)=P.c:=by unfold actA;rw[if_neg (fun q=>hu q.2)]
    have ea:actC P.c (P.ti+1)=P.c:=by unfold actC;rw[hpo,hA,if_neg (by simp),if_neg (by rw[hw];simp)]
    have eb:actB P.c (P.ti+1)=false:=by unfold actB;rw[hA,hw];simp
    rw[eb]at e1;rw[ea]at e0;refine⟨⟨gi,ge,by rw[e0];exact hp,.inr (.inr ⟨by rw[e0];exact ho,by rw[e0];exact hw,e1,by rw[e0,e2];omega⟩)⟩,?_⟩;unfold mu;rw[e0,ho,hw,e2,if_neg hu];simp;omega
theorem zv8 {m:MsgD}(h:P.ms=[m])(hk:m.k≠2)(hf:folB P.vs m=true):dlvN 80 P={ P with vs:=folV P.vs m,ms:=[],c:=za4 P.c { m with k:=2 } P.ti }:=by
 have h1:delP P 0={ P with vs:=folV P.vs m,ms:=[{ m with k:=2 }] }:=by
  rw[zj6 h];unfold arrP;rw[if_neg hk,if_pos hf];rfl
 have h2:delP { P with vs:=folV P.vs m,ms:=[{ m with k:=2 }] } 0={ P with vs:=folV P.vs m,ms:=[],c:=za4 P.c { m with k:=2 } P.ti }:=by
  rw[zj6 rfl];unfold arrP;rw[if_pos rfl]
 show dlvN (78+1+1) P=_;rw[dlvN,if_neg (by rw[h];simp),h1,dlvN,if_neg (by simp),h2,zhy rfl]
theorem zxw (c:CtlD)(m:MsgD)(ti:Int):(za4 c m ti).pa=c.pa:=by
 unfold za4;split
 ·split
  ·unfold finC;rw[(zcg _).2.2.2.2.2.2.2];rfl
  ·rfl
 ·rfl
theorem zv5 (P:zad)(k:Int):(delP P k).c.pa=P.c.pa:=by
 unfold delP;split
 ·unfold arrP;split
  ·exact zxw _ _ _
  ·split<;>rfl
 ·rfl
theorem zj9:∀ (n:Nat) (P:zad),(dlvN n P).c.pa=P.c.pa
 |0,P=>rfl
 |n+1,P=>by
  unfold dlvN;split
  ·rfl
  ·rw[zj9 n,zv5]
theorem zn0 {P:zad}(h:P.c.wk=false)(k:Int):(delP P k).c=P.c:=by
 unfold delP;split
 ·unfold arrP;split
  ·unfold za4 earB;rw[h];rfl
  ·split<;>rfl
 ·rfl
theorem zhz:∀ (n:Nat) {P:zad},P.c.wk=false->(dlvN n P).c=P.c
 |0,P,_=>rfl
 |n+1,P,h=>by
  unfold dlvN;split
  ·rfl
  ·rw[zhz n (by rw[zn0 h];exact h),zn0 h]
theorem zid {vs:List SrvD}{c:CtlD}(h:Shp X vs c)(ho:zaj c=true):c.wk=false:=by
 have:=h.st;unfold zaj at ho;have ho:=of_decide_eq_true ho;rcases this with q|q|q|q
 iterate 2
  ·omega
 iterate 2
  ·exact q.2.2
theorem zw8 {c:CtlD}(h1:c.st=1\/c.st=2)(ti:Int)(ho:zaj (finC c ti)=false):Mov X (finC c ti)=Mov X c-1:=by
 have hs:(finC c ti).pos=if c.st=2 then c.pos-1 else c.pos+1:=by unfold finC;rw[(zcg _).2.1]
 have hst:(finC c ti).st=c.st:=by
  unfold finC at ho ⊢;unfold zaj at ho;generalize hq:({ c with wk:=false,pos:=(if c.st=2 then c.pos-1 else c.pos+1),un:=ti+c.rest }:CtlD)=d at ho ⊢;have hd:d.st=c.st:=by rw[<- hq]
  have ho:=of_decide_eq_false ho;unfold zat zcr zbr at *;split at ho
  ·rename_i q;exfalso;split at ho
   ·exact ho (.inr rfl)
   ·exact ho (.inl rfl)
  ·rename_i q;rw[if_neg q];split at ho
   ·exact absurd (.inr rfl) ho
   ·rename_i q2;rw[if_neg q2];exact hd
 unfold Mov;rw[hst,hs];rcases h1 with h1|h1
 ·rw[h1];simp;omega
 ·rw[h1];simp
theorem Good.round (h:Good X W P):Good X W (quiP P)/\(zaj (quiP P).c=true\/(zaj P.c=false/\mu X (quiP P)<=mu X P-1))/\(zaj P.c=true->(quiP P).c=P.c):=by
 obtain⟨di,de⟩:=zj8 80 h.inv h.ext;have dm:=zj7 h.ext.l40;have dp:=(zj9 80 P).trans h.pa;obtain⟨g,hg⟩:=zsb di de dp dm;refine⟨g,?_,fun ho=>?_⟩
 ·rcases h.wh with ho|⟨ho,hw,hm,hb⟩|⟨ho,hw,hm,hu⟩
  ·left;have e:=zhz 80 (zid h.inv.sh ho);show zaj (actC (dlvN 80 P).c ((dlvN 80 P).ti+1))=true;rw[e];unfold actC;rw[ho];simp[ho]
  ·right;refine⟨ho,?_⟩;have hst:P.c.st=1\/P.c.st=2:=by have:=h.inv.sh.st;rw[hw]at this;simp at this;omega
   obtain⟨t,ht,e1,e2,e3,e4,e5,e6,e7⟩:=zgd h.inv.sh hst;have hcb:=h.ext.ub hw;have hfl:frst P.c.a0 P.c.a1 P.c.a2 (curT P.c).z<(curT P.c).z:=by unfold cmdB at hcb;simpa using hcb
   have hf3:=zoy hfl;obtain⟨hm0,_,_⟩:=h.inv.nt.m0 _ (by rw[hm];exact List.mem_cons_self);have hfo:folB P.vs ⟨1,P.c.nu,(curT P.c).s,frst P.c.a0 P.c.a1 P.c.a2 (curT P.c).z,(curT P.c).r⟩=true:=by
    unfold folB;rw[hm0];have:=h.inv.nt.i5 _ _ hm0;simp;exact this
   have hd:=zv8 hm (by show (1:Int)≠2;omega) hfo;have hear:earB P.c { (⟨1,P.c.nu,(curT P.c).s,frst P.c.a0 P.c.a1 P.c.a2 (curT P.c).z,(curT P.c).r⟩:MsgD)with k:=2 }=true:=by
    unfold earB numB;rw[hw];simp;exact⟨hb,hf3⟩
   have hla:=(zm8 (by omega)).1 hcb;have hla2:=zx6 (c:=P.c) (by omega) hcb;have hmv:=h.inv.sh.mov ho;have hmu:mu X P=9*(Mov X P.c-1)+zcw P.c:=by unfold mu;rw[ho,hw];simp
   rw[hd]at hg;refine Int.le_trans (by show mu X (tckP (dlvN 80 P))<=_;rw[hd];exact hg) ?_;simp only;have hc1:za4 P.c { (⟨1,P.c.nu,(curT P.c).s,frst P.c.a0 P.c.a1 P.c.a2 (curT P.c).z,(curT P.c).r⟩:MsgD)with k:=2 } P.ti=if frst (ansC P.c (frst P.c.a0 P.c.a1 P.c.a2 (curT P.c).z)).a0 (ansC P.c (frst P.c.a0 P.c.a1 P.c.a2 (curT P.c).z)).a1 (ansC P.c (frst P.c.a0 P.c.a1 P.c.a2 (curT P.c).z)).a2 (curT (ansC P.c (frst P.c.a0 P.c.a1 P.c.a2 (curT P.c).z))).z=(curT (ansC P.c (frst P.c.a0 P.c.a1 P.c.a2 (curT P.c).z))).z then finC (ansC P.c (frst P.c.a0 P.c.a1 P.c.a2 (curT P.c).z)) P.ti else ansC P.c (frst P.c.a0 P.c.a1 P.c.a2 (curT P.c).z):=by
    unfold za4;rw[if_pos hear]
   rw[hc1];generalize hA:ansC P.c (frst P.c.a0 P.c.a1 P.c.a2 (curT P.c).z)=A at *;have aw:A.wk=true:=by rw[<- hA];exact hw
   have ao:zaj A=false:=by rw[<- hA];exact ho
   have am:Mov X A=Mov X P.c:=by rw[<- hA];rfl
   have ar:A.rest=P.c.rest:=by rw[<- hA];rfl
   have ast:A.st=1\/A.st=2:=by rw[<- hA];exact hst
   have r6:=h.ext.r6;split
   ·cases hfo:zaj (finC A P.ti) with
    |true=>simp;omega
    |false =>
     have fw:(finC A P.ti).wk=false:=by unfold finC;rw[(zcg _).2.2.1]
     have fu:(finC A P.ti).un=P.ti+A.rest:=by unfold finC;rw[(zcg _).2.2.2.2.2.2.1]
     have fm:=zw8 (X:=X) ast P.ti hfo;rw[fw,fu,fm,am,ar,hmu];simp only[xo,if_false];split<;>omega
   ·rw[ao,am,hla2,hmu];simp[aw]
    try omega
  ·right;refine⟨ho,?_⟩;rw[zhy hm]at hg;refine Int.le_trans (by show mu X (tckP (dlvN 80 P))<=_;rw[zhy hm];exact hg) ?_;have hmu:mu X P=9*(Mov X P.c-1)+(3+(P.c.un-P.ti)):=by unfold mu;rw[ho,hw];simp
   rw[ho,hw,hmu];simp only[xo,if_false];split<;>omega
 ·have e:=zhz 80 (zid h.inv.sh ho);show actC (dlvN 80 P).c ((dlvN 80 P).ti+1)=P.c;rw[e];unfold actC;rw[ho];simp
def quiN:Nat->zad->zad
 |0,P=>P
 |n+1,P=>quiN n (quiP P)
theorem Good.pos (h:Good X W P)(ho:zaj P.c=false):1<=mu X P:=by
 have hmv:=h.inv.sh.mov ho;unfold mu;rw[ho];rcases h.wh with q|⟨_,hw,hm,hb⟩|⟨_,hw,hm,hu⟩
 ·rw[ho]at q;cases q
 ·rw[hw];have hst:P.c.st=1\/P.c.st=2:=by have:=h.inv.sh.st;rw[hw]at this;simp at this;omega
  obtain⟨t,ht,e1,e2,e3,e4,e5,e6,e7⟩:=zgd h.inv.sh hst;have hla:=(zm8 (by omega)).1 (h.ext.ub hw);simp;omega
 ·rw[hw];simp;omega
theorem Good.many:∀ (n:Nat) {P:zad},Good X W P->(zaj P.c=true\/mu X P<=n)->Good X W (quiN n P)/\zaj (quiN n P).c=true
 |0,P,h,hn=>by
  refine⟨h,?_⟩;rcases hn with q|q
  ·exact q
  ·cases ho:zaj P.c with
   |true=>exact ho
   |false=>have:=h.pos ho;simp at q;omega
 |n+1,P,h,hn=>by
  obtain⟨g,g1,g2⟩:=h.round;refine Good.many n g ?_;rcases hn with q|q
  ·left;rw[g2 q];exact q
  ·rcases g1 with g1|⟨_,g1⟩
   ·exact .inl g1
   ·right;simp at q;omega
theorem yaaw (hi:PInv X W P)(he:Ext P)(hp:P.c.pa=false):Good X W (quiN (9*(X.n+1)) P)/\zaj (quiN (9*(X.n+1)) P).c=true:=by
 obtain⟨di,de⟩:=zj8 80 hi he;obtain⟨g,hg⟩:=zsb di de ((zj9 80 P).trans hp) (zj7 he.l40);show Good X W (quiN (9*X.n+8) (quiP P))/\_;refine Good.many _ g ?_;cases ho:zaj (dlvN 80 P).c with
 |true =>
  left;show zaj (actC (dlvN 80 P).c ((dlvN 80 P).ti+1))=true;unfold actC;rw[ho];simp[ho]
 |false =>
  right;refine Int.le_trans hg ?_;rw[ho];have:=di.sh.mov ho;have:=zpc (dlvN 80 P).c;have:=de.ur;have:=de.r6;simp only[xo,if_false];split
  ·omega
  ·split<;>omega
end
section
open Go.RowKit
def RunE (w:World)(L:Nat->Nat)(r:Nat)(P:zad):Prop:=∃ gt tc m gv vc t s sv tv,RunM w L r P gt tc m gv vc t s sv tv
def Turn (w:World)(L:Nat->Nat)(r:Nat)(W:World)(P':zad):Prop:=∃ L',RunE W L' r P'/\Lab w L L'/\Chg (fun b=>L b≠0) w W
theorem RunE.keep {w W:World}{L:Nat->Nat}{r:Nat}{P:zad}(h:RunE w L r P)(hb:Below w.heap.size w W):RunE W L r P:=by
 obtain⟨gt,tc,m,gv,vc,t,s,sv,tv,h⟩:=h;exact⟨gt,tc,m,gv,vc,t,s,sv,tv,h.keep hb⟩
theorem Turn.below {w W W':World}{L:Nat->Nat}{r:Nat}{P:zad}(h:Turn w L r W P)(hb:Below W.heap.size W W'):Turn w L r W' P:=by
 obtain⟨L',h1,h2,h3⟩:=h;exact⟨L',h1.keep hb,h2,h3.trans (Chg.of hb)⟩
theorem Turn.of {w W:World}{L:Nat->Nat}{r:Nat}{P:zad}(h:RunE w L r P)(hb:Below w.heap.size w W):Turn w L r W P:=⟨L,h.keep hb,Lab.refl _ _,Chg.of hb⟩
theorem Turn.trans {w W W':World}{L L':Nat->Nat}{r:Nat}{P:zad}(h2:Lab w L L')(h3:Chg (fun b=>L b≠0) w W)(k:Turn W L' r W' P):Turn w L r W' P:=by
 obtain⟨L2,k1,k2,k3⟩:=k;exact⟨L2,k1,h2.trans h3.size k2,h3.step h2 k3 fun b hb=>hb⟩
theorem Turn.undrew {w W:World}{L:Nat->Nat}{r:Nat}{P:zad}(h:Turn w.drew L r W P):Turn w L r W P:=by
 obtain⟨L',h1,h2,h3⟩:=h;exact⟨L',h1,h2,⟨h3.os,h3.tape,h3.output,h3.size,h3.block⟩⟩
section
variable {w W:World}{L L':Nat->Nat}{r:Nat}{P:zad}{gt tc:Nat}{m:Value}{gv vc:Nat}{t s:Value}{sv:List (Value×Value)}{tv:List (Int×Value)}
theorem RunM.chgr (h:RunM w L r P gt tc m gv vc t s sv tv)(hc:Chg (·= r) w W):Chg (fun b=>L b≠0) w W:=hc.mono fun b e=>by rw[e,h.lr];omega
theorem zqb (h:RunE w L r P):Calls Tryz.prog 72 #[.pointer (some ⟨r,0,none⟩)] w fun e W=>e=.returned (.bool (zaj P.c))/\w=W:=by
 obtain⟨gt,tc,m,gv,vc,t,s,sv,tv,h⟩:=h;have hI:=zfi h.row;clear h;generalize zaj P.c=B at *
 go_enter Tryz.func72,Tryz.ntmps72
 go_wp2_with (first|(go_at_call 135;refine hI.mono ?_;rintro e _ ⟨rfl,rfl⟩))
 go_ret;exact⟨rfl,rfl⟩
theorem zzm (h:RunE w L r P):Calls Tryz.prog 74 #[.pointer (some ⟨r,0,none⟩)] w fun e W=>e=.returned (.bool (decide (P.c.st=2)))/\w=W:=by
 obtain⟨gt,tc,m,gv,vc,t,s,sv,tv,h⟩:=h;have k3:w.cell? ⟨r,3,none⟩=some (.int .i64 P.c.st):=h.row.cell rfl;clear h;generalize P.c.st=st at *
 go_enter Tryz.func74,Tryz.ntmps74
 go_wp2_with fail
 go_ret;exact⟨zbx (by rw[Bool.eq_iff_iff];simp),rfl⟩
theorem zsi (c:CtlD):(zc9 c).ts=c.ts:=by
 unfold zc9;rw[(zcg _).1];split<;>rfl
theorem zzv (hb:0<=P.c.pos/\P.c.pos<=4000000000)(h:RunE w L r P):Calls Tryz.prog 75 #[.pointer (some ⟨r,0,none⟩)] w fun e W=>e=.returned (.tuple #[])/\Turn w L r W (trnP P):=by
 obtain⟨gt,tc,m,gv,vc,t,s,sv,tv,h⟩:=h;have hI:=(yad7 hb h.row).mono fun e W q=>(⟨q.1,L,⟨_,_,_,_,_,_,_,_,_,h.ctl (zsi _) q.2.2 q.2.1⟩,Lab.refl _ _,h.chgr q.2.2⟩:e=Ending.returned (.tuple #[])/\Turn w L r W (trnP P));clear h;generalize trnP P=Q at *
 go_enter Tryz.func75,Tryz.ntmps75
 go_wp2_with (first|(go_at_call 136;refine hI.mono ?_;rintro e w1 ⟨rfl,ht⟩))
 refine bodyPost_end (v:=.tuple #[]) (results_none rfl _ _ _) rfl ?_;exact⟨rfl,ht⟩
theorem zzs (on:Bool)(h:RunE w L r P):Calls Tryz.prog 73 #[.pointer (some ⟨r,0,none⟩),.bool on] w fun e W=>e=.returned (.tuple #[])/\Turn w L r W (pauP P on):=by
 obtain⟨gt,tc,m,gv,vc,t,s,sv,tv,h⟩:=h;have k6:w.cell? ⟨r,6,none⟩=some (.bool P.c.pa):=h.row.cell rfl;have x6:=h.row.frozen 6;have hc:=(Chg.refl (·= r) w).set (p:=⟨r,6,none⟩) (.inl rfl) (.bool on);have HT:Hid (Turn w L r (w.setCell ⟨r,6,none⟩ (.bool on)) (pauP P on)):=⟨L,⟨_,_,_,_,_,_,_,_,_,h.ctl (c':={ P.c with pa:=on }) rfl hc (h.row.set 6 _)⟩,Lab.refl _ _,h.chgr hc⟩;clear h hc;generalize pauP P on=Q at *
 go_enter Tryz.func73,Tryz.ntmps73
 go_wp2_with fail
 refine bodyPost_end (v:=.tuple #[]) (results_none rfl _ _ _) rfl ?_;exact⟨rfl,HT.out⟩
theorem znd (c:CtlD)(ti:Int):(crsC c ti).ts=c.ts:=by
 unfold crsC;split
 ·rfl
 ·split<;>rfl
theorem zze (hb:0<=P.ti/\P.ti<=4000000000/\0<=P.c.rest/\P.c.rest<=4000000000)(h:RunE w L r P):Calls Tryz.prog 76 #[.pointer (some ⟨r,0,none⟩)] w fun e W=>e=.returned (.tuple #[])/\Turn w L r W (crsP P):=by
 obtain⟨gt,tc,m,gv,vc,t,s,sv,tv,h⟩:=h;have k0:w.cell? ⟨r,0,none⟩=some (.int .i64 P.ti):=h.row.cell rfl;have hI:=(zvo P.ti hb h.drew.row).mono fun e W q=>(⟨q.1,L,⟨_,_,_,_,_,_,_,_,_,h.drew.ctl (znd _ _) q.2.2 q.2.1⟩,Lab.refl _ _,h.drew.chgr q.2.2⟩:e=Ending.returned (.tuple #[])/\Turn w.drew L r W (crsP P));clear h hb;generalize crsP P=Q at *;generalize P.ti=ti at *
 go_enter Tryz.func76,Tryz.ntmps76
 go_wp2_with fail
 go_region_with (go_at_call 137;refine hI.mono ?_;rintro e w1 ⟨rfl,ht⟩)
 all_goals
  go_wp2_with fail
  refine bodyPost_end (v:=.tuple #[]) (results_none rfl _ _ _) rfl ?_;exact⟨rfl,ht.undrew⟩
theorem zzu (h:RunE w L r P):Calls Tryz.prog 101 #[.pointer (some ⟨r,0,none⟩)] w fun e W=>e=.returned (.agg #[.int .i64 P.c.st,.int .i64 P.c.pos,.int .i64 P.ti,.int .i64 P.c.nu,.bool P.c.wk,.bool P.c.pa])/\Below w.heap.size w W:=by
 obtain⟨gt,tc,m,gv,vc,t,s,sv,tv,h⟩:=h;have hr:=h.row;have lr:=hr.lt;clear h;obtain⟨P0,c,P2,P3,P4,P5⟩:=P;obtain⟨ts,rest,st,pos,wk,pa,un,nu,ba,a0,a1,a2⟩:=c;have k0:w.cell? ⟨r,0,none⟩=some (.int .i64 P0):=hr.cell rfl;have k1:w.cell? ⟨r,1,none⟩=some (.slice (some ⟨gt,0,none⟩) ts.length tc):=hr.cell rfl;have k2:w.cell? ⟨r,2,none⟩=some (.int .i64 rest):=hr.cell rfl;have k3:w.cell? ⟨r,3,none⟩=some (.int .i64 st):=hr.cell rfl;have k4:w.cell? ⟨r,4,none⟩=some (.int .i64 pos):=hr.cell rfl;have k5:w.cell? ⟨r,5,none⟩=some (.bool wk):=hr.cell rfl;have k6:w.cell? ⟨r,6,none⟩=some (.bool pa):=hr.cell rfl;have k7:w.cell? ⟨r,7,none⟩=some (.int .i64 un):=hr.cell rfl;have k8:w.cell? ⟨r,8,none⟩=some (.int .i64 nu):=hr.cell rfl;have k9:w.cell? ⟨r,9,none⟩=some (.int .i64 ba):=hr.cell rfl;have k10:w.cell? ⟨r,10,none⟩=some (.bool a0):=hr.cell rfl;have k11:w.cell? ⟨r,11,none⟩=some (.bool a1):=hr.cell rfl;have k12:w.cell? ⟨r,12,none⟩=some (.bool a2):=hr.cell rfl;clear hr;simp only;generalize ts.length=n at *
 go_enter Tryz.func101,Tryz.ntmps101
 go_wp2_with fail
 go_big_region
 go_wp2_with fail
 exact bodyPost_ret (v:=.agg #[.int .i64 st,.int .i64 pos,.int .i64 P0,.int .i64 nu,.bool wk,.bool pa]) (by simp[results,Tryz.results101,go_sem]) rfl ⟨rfl,(thn3 (bel1 _ _) (bel1 _ _)).drew⟩
end
end
end Go.Proofs.YtkkekopomiehlabGreatDoor
