import Derived.Test.YtkkekopomiehlabGreatDoorEPy6
set_option linter.unusedVariables false
set_option linter.unusedSimpArgs false
set_option maxHeartbeats 40000000
open List renaming getElem?_eq_some_iff->xe,getElem?_eq_getElem->xg,getD_eq_getElem?_getD->xh,getElem?_map->xj,length_take->xq,length_map->xu,take_add_one->xy,getElem?_set->xz,length_set->qd,map_set->qg
open Nat renaming lt_of_lt_of_le->xf,le_refl->xo,le_trans->xv,zero_le->qh
open Go.World.ownsRow renaming stored->xm,lt->qi
open Int renaming toNat_natCast->xp
open Go.Value renaming ownBlock->qe
open Go.World renaming setCell->qf
open Go.RowKit
set_option maxRecDepth 4000
namespace Go.Proofs.YtkkekopomiehlabGreatDoor
section
variable {w W:World}{L:Nat->Nat}{r:Nat}{P:zad}{gt tc:Nat}{m:Value}{gv vc:Nat}{t s:Value}{sv:List (Value×Value)}{tv:List (Int×Value)}
theorem RunM.svc (h:RunM w L r P gt tc m gv vc t s sv tv){i:Nat}{V:SrvD}(hV:P.vs[i]?=some V):∃ q:Value×Value,sv[i]?=some q/\w.cell? ⟨gv,i*2,none⟩=some q.1/\w.cell? ⟨gv,i*2+1,none⟩=some q.2/\Own w L (10+2*i) 266 2 q.1 V.ins.length (V.ins.flatMap insF)/\RelL w L q.2 V.rels:=by
 have hi:=(xe.1 hV).1;have hl:=h.sta.sl;rw[xu]at hl;obtain⟨q,hq⟩:∃ q,sv[i]?=some q:=⟨sv[i]'(by omega),xg _⟩;obtain⟨c0,c1⟩:=h.sta.srv i q hq;exact⟨q,hq,c0,c1,h.ins i V q hV hq,h.sta.rel i q V.rels hq (by rw[xj,hV];rfl)⟩
theorem zh3 {vs:List SrvD}{a b:Int}(h:hasB vs a b=true):∃ (i j:Nat) (V:SrvD) (x:InsD),a=i/\b=j/\vs[i]?=some V/\V.ins[j]?=some x/\insG vs a b=x:=by
 rw[zd4]at h;obtain⟨h1,h2,h3,h4⟩:=h;have e1:vs[a.toNat]?=some (vs.getD a.toNat srv0):=by rw[xh,xg (by omega)];rfl
 have e2:(vs.getD a.toNat srv0).ins[b.toNat]?=some (insG vs a b):=by
  unfold insG;rw[xh (l:=(vs.getD a.toNat srv0).ins),xg (by omega)];rfl
 exact⟨a.toNat,b.toNat,_,_,by omega,by omega,e1,e2,rfl⟩
theorem zhb (a b:Int)(hh:hasB P.vs a b=true)(h:RunM w L r P gt tc m gv vc t s sv tv):Calls Tryz.prog 188 #[.pointer (some ⟨r,0,none⟩),.int .i64 a,.int .i64 b] w fun e W=>e=.returned (.bool true)/\W=w:=by
 obtain⟨i,j,V,x,rfl,rfl,hV,hx,_⟩:=zh3 hh;obtain⟨q,hq,c0,c1,ho,_⟩:=h.svc hV;obtain⟨q1,q2⟩:=q;have hi:=(xe.1 hV).1;have hj:=(xe.1 hx).1;obtain⟨ad,cap,hsl,hc1,hc2⟩:=ho.len;simp only at hsl c0;subst hsl;have k14:w.cell? ⟨r,14,none⟩=some (.slice (some ⟨gv,0,none⟩) P.vs.length vc):=h.row.cell rfl;have hv:=h.vcl;have n1:=fun W=>za5 (i:Int) (P.vs.length:Int) W;rw[show numB (i:Int) (P.vs.length:Int)=true by unfold numB;simp;omega]at n1;have n2:=fun W=>za5 (j:Int) (V.ins.length:Int) W;rw[show numB (j:Int) (V.ins.length:Int)=true by unfold numB;simp;omega]at n2;have hx0:(0:Int)<=(i:Int):=by omega
 have hx1:(i:Int)<(P.vs.length:Int):=by omega
 clear h hh hV hx hq c1 ho hi;generalize P.vs.length=nv at *;generalize V.ins.length=ni at *
 go_enter Tryz.func188,Tryz.ntmps188
 go_wp2_with (first
  |(go_at_call 178;have hq:=hb1;refine(n2 _).mono ?_;rintro e _ ⟨rfl,rfl⟩)
  |(go_at_call 178;refine(n1 _).mono ?_;rintro e _ ⟨rfl,rfl⟩;have hb1:True:=trivial))
 go_ret;exact⟨rfl,rfl⟩
theorem zrs {vs:List SrvD}{i j:Nat}{V:SrvD}{x:InsD}(hV:vs[i]?=some V)(k:Nat):(setI vs (i:Int) (j:Int) x)[k]?=if k=i then some { V with ins:=V.ins.set j x } else vs[k]?:=by
 unfold setI;have e:vs.getD (i:Int).toNat srv0=V:=by rw[xh,xp,hV];rfl
 rw[e,xp,xp,xz];have hi:=(xe.1 hV).1;by_cases h:k=i
 ·subst h;rw[if_pos rfl,if_pos hi,if_pos rfl]
 ·rw[if_neg (fun q=>h q.symm),if_neg h]
theorem yacc {vs:List SrvD}{i j:Nat}{V:SrvD}{x:InsD}(hV:vs[i]?=some V):(setI vs (i:Int) (j:Int) x).map SrvD.rels=vs.map SrvD.rels:=by
 refine List.ext_getElem? fun k=>?_;rw[xj,xj,zrs hV];split
 ·rename_i h;subst h;rw[hV];rfl
 ·rfl
theorem RunM.fol (h:RunM w L r P gt tc m gv vc t s sv tv){i j:Nat}{V:SrvD}{x y:InsD}(hV:P.vs[i]?=some V)(hx:V.ins[j]?=some x){q:Value×Value}(hq:sv[i]?=some q){g cap:Nat}(hg:q.1=.slice (some ⟨g,0,none⟩) V.ins.length cap) :
  RunM ((w.setCell ⟨g,j*2,none⟩ (.int .i64 y.r)).setCell ⟨g,j*2+1,none⟩ (.int .i64 y.h)) L r { P with vs:=setI P.vs (i:Int) (j:Int) y } gt tc m gv vc t s sv tv/\Chg (fun b=>L b=10+2*i) w ((w.setCell ⟨g,j*2,none⟩ (.int .i64 y.r)).setCell ⟨g,j*2+1,none⟩ (.int .i64 y.h)):=by
 have ho:=h.ins i V q hV hq;rw[hg]at ho;have hlg:L g=10+2*i:=ho.2 g rfl;have hc:Chg (fun b=>L b=10+2*i) w ((w.setCell ⟨g,j*2,none⟩ (.int .i64 y.r)).setCell ⟨g,j*2+1,none⟩ (.int .i64 y.h)) :=
  ((Chg.refl (fun b=>L b=10+2*i) w).set (p:=⟨g,j*2,none⟩) (.inl hlg) _).set (p:=⟨g,j*2+1,none⟩) (.inl hlg) _
 have key:∀ k,k≠10+2*i->∀ b,L b=k->¬ L b=10+2*i:=fun k hk b hb e=>by omega
 refine⟨⟨?_,h.lr,fun b hb'=>h.fr b (xv hc.size hb'),xf h.gtl hc.size,xf h.gvl hc.size,by show (setI P.vs _ _ y).length<=vc;rw[zlk];exact h.vcl,?_,h.msg.chg hc (key 3 (by omega)),fun k V' q' h1 h2=>?_,h.top.chg hc (key 5 (by omega)),h.tk,fun k T q' h1 h2=>(h.rcs k T q' h1 h2).chg hc (key _ (by omega))⟩,hc⟩
 ·show RowIs _ r _ (RunC P.ti (.slice (some ⟨gt,0,none⟩) P.c.ts.length tc) P.c m (.slice (some ⟨gv,0,none⟩) (setI P.vs _ _ y).length vc) t s);rw[zlk];exact hc.row h.row (key 1 (by omega) r h.lr)
 ·show Sta _ L gt gv P.c.ts sv ((setI P.vs _ _ y).map SrvD.rels) s P.ss;rw[yacc hV];exact h.sta.chg hc (key 2 (by omega))
 ·have h3:(setI P.vs (i:Int) (j:Int) y)[k]?=some V':=h1;rw[zrs hV]at h3;split at h3
  ·rename_i e;subst e;obtain rfl:{ V with ins:=V.ins.set j y }=V':=by simpa using h3
   rw[hq]at h2;obtain rfl:q=q':=by simpa using h2
   rw[hg];have s1:=(xm ho.1 (j*2) (.int .i64 y.r)).1;have s2:=(xm s1 (j*2+1) (.int .i64 y.h)).1;have e1:=zeh (f:=insF) (k:=2) (fun _=>rfl) hx (j:=0) (u:=.int .i64 y.r) (y:=⟨y.r,x.h⟩) (by omega) rfl;rw[Nat.add_zero]at e1;have hx':(V.ins.set j ⟨y.r,x.h⟩)[j]?=some ⟨y.r,x.h⟩:=by rw[List.getElem?_set_self];exact(xe.1 hx).1
   have e2:=zeh (f:=insF) (k:=2) (fun _=>rfl) hx' (j:=1) (u:=.int .i64 y.h) (y:=y) (by omega) rfl;rw[e1,e2,List.set_set]at s2;refine⟨?_,fun b hb=>?_⟩
   ·show World.ownsRow _ 0 _ 2 _ (V.ins.set j y).length _;rw[qd];exact s2
   ·have:g=b:=by simpa[qe]using hb
    rw[<- this];exact hlg
  ·rename_i e;exact(h.ins k V' q' h3 h2).chg hc (key _ (by omega))
theorem zxd (x:MsgD)(hh:hasB P.vs x.s x.i=true)(hf:x.n<(insG P.vs x.s x.i).h)(h:RunM w L r P gt tc m gv vc t s sv tv):Calls Tryz.prog 185 #[.pointer (some ⟨r,0,none⟩),.agg #[.int .i64 x.k,.int .i64 x.n,.int .i64 x.s,.int .i64 x.i,.int .i64 x.r]] w fun e W=>e=.returned (.bool false)/\Below w.heap.size w W:=by
 obtain⟨xk,xn,xs,xi,xr⟩:=x;have hI:=fun (W:World) (hb:Below w.heap.size w W)=>zhb xs xi hh (h.keep hb);obtain⟨i,j,V,y,h1,h2,hV,hx,hy⟩:=zh3 hh;simp only at h1 h2 hy hf;rw[hy]at hf;subst h1 h2;obtain⟨q,hq,c0,c1,ho,_⟩:=h.svc hV;have hi:=(xe.1 hV).1;have hj:=(xe.1 hx).1;obtain⟨g,cap,hsl,hlg,hc1,hc2,lg,hcell,_⟩:=ho.some (by omega);rw[hsl]at c0;have d1:w.cell? ⟨g,j*2+1,none⟩=some (.int .i64 y.h):=hcell (j*2+1) _ (za2 (f:=insF) (fun _=>rfl) hx (by omega));have k14:w.cell? ⟨r,14,none⟩=some (.slice (some ⟨gv,0,none⟩) P.vs.length vc):=h.row.cell rfl;have hv:=h.vcl;have lr:=h.row.lt;have lv:=h.gvl;have hx0:(0:Int)<=(i:Int):=by omega
 have hx1:(i:Int)<(P.vs.length:Int):=by omega
 have hy0:(0:Int)<=(j:Int):=by omega
 have hy1:(j:Int)<(V.ins.length:Int):=by omega
 clear h hh hV hx hq c1 ho hi hj hcell hsl hy hlg;generalize P.vs.length=nv at *;generalize V.ins.length=ni at *;generalize y.h=hh at *
 go_enter Tryz.func185,Tryz.ntmps185
 go_wp2_with (first|(go_at_call 188;refine(hI _ (bel1 _ _)).mono ?_;rintro e _ ⟨rfl,rfl⟩))
 go_quiet (fail)
 go_wp2_with fail
 go_ret;exact⟨rfl,below_drewN (bel1 _ _) _⟩
theorem zxe (x:MsgD)(hh:hasB P.vs x.s x.i=true)(hf:¬ x.n<(insG P.vs x.s x.i).h)(h:RunM w L r P gt tc m gv vc t s sv tv):Calls Tryz.prog 185 #[.pointer (some ⟨r,0,none⟩),.agg #[.int .i64 x.k,.int .i64 x.n,.int .i64 x.s,.int .i64 x.i,.int .i64 x.r]] w fun e W=>e=.returned (.bool true)/\RunM W L r { P with vs:=setI P.vs x.s x.i ⟨x.r,x.n⟩ } gt tc m gv vc t s sv tv/\Chg (fun b=>10<=L b) w W:=by
 obtain⟨xk,xn,xs,xi,xr⟩:=x;have hI:=fun (W:World) (hb:Below w.heap.size w W)=>zhb xs xi hh (h.keep hb);obtain⟨i,j,V,y,h1,h2,hV,hx,hy⟩:=zh3 hh;simp only at h1 h2 hy hf ⊢;rw[hy]at hf;subst h1 h2;obtain⟨q,hq,c0,c1,ho,_⟩:=h.svc hV;have hi:=(xe.1 hV).1;have hj:=(xe.1 hx).1;obtain⟨g,cap,hsl,hlg,hc1,hc2,lg,hcell,hfz⟩:=ho.some (by omega);have HF:=zaa (fun n=>(((h.keep (bel1 w (.cells #[.int .i64 xk,.int .i64 xn,.int .i64 i,.int .i64 j,.int .i64 xr] 100))).out (S:=fun _=>False) ((Chg.refl _ _).drewN n) (fun _ q=>q.elim)).fol (y:=⟨xr,xn⟩) hV hx hq hsl));rw[hsl]at c0;have d0:w.cell? ⟨g,j*2,none⟩=some (.int .i64 y.r):=hcell (j*2+0) _ (za2 (f:=insF) (fun _=>rfl) hx (by omega));have d1:w.cell? ⟨g,j*2+1,none⟩=some (.int .i64 y.h):=hcell (j*2+1) _ (za2 (f:=insF) (fun _=>rfl) hx (by omega));have z0:=hfz (j*2);have z1:=hfz (j*2+1);have k14:w.cell? ⟨r,14,none⟩=some (.slice (some ⟨gv,0,none⟩) P.vs.length vc):=h.row.cell rfl;have hv:=h.vcl;have lr:=h.row.lt;have lv:=h.gvl;have hx0:(0:Int)<=(i:Int):=by omega
 have hx1:(i:Int)<(P.vs.length:Int):=by omega
 have hy0:(0:Int)<=(j:Int):=by omega
 have hy1:(j:Int)<(V.ins.length:Int):=by omega
 have hf':y.h<=xn:=by omega
 clear h hh hV hx hq c1 ho hi hj hcell hsl hy hfz hf;generalize P.vs.length=nv at *;generalize V.ins.length=ni at *;generalize y.h=hh at *;generalize y.r=yr at *
 go_enter Tryz.func185,Tryz.ntmps185
 go_wp2_with (first|(go_at_call 188;refine(hI _ (bel1 _ _)).mono ?_;rintro e _ ⟨rfl,rfl⟩))
 go_quiet (fail)
 go_wp2_with fail
 go_big_region
 go_wp2_with fail
 go_ret;obtain⟨hM,hC⟩:=HF.out (nq+1);exact⟨rfl,hM,(((Chg.of (S:=fun b=>10<=L b) (bel1 _ _)).drewN _)).trans (hC.mono fun k hk=>by omega)⟩
theorem RunM.drew (h:RunM w L r P gt tc m gv vc t s sv tv):RunM w.drew L r P gt tc m gv vc t s sv tv:=h.out (S:=fun _=>False) (Chg.refl _ _).drew (fun _ q=>q.elim)
theorem zo3 (c:CtlD)(x:MsgD)(ti:Int):(za4 c x ti).ts=c.ts:=by
 unfold za4;split
 ·split
  ·unfold finC;rw[(zcg _).1];rfl
  ·rfl
 ·rfl
theorem zs8 (x:MsgD)(hk:x.k=2)(hi:0<=x.i/\x.i<3)(hc:P.c.wk=true->zby P.c)(hb:0<=P.ti/\P.ti<=4000000000/\0<=P.c.rest/\P.c.rest<=4000000000)(h:RunM w L r P gt tc m gv vc t s sv tv):Calls Tryz.prog 120 #[.pointer (some ⟨r,0,none⟩),.agg #[.int .i64 x.k,.int .i64 x.n,.int .i64 x.s,.int .i64 x.i,.int .i64 x.r]] w fun e W=>e=.returned (.tuple #[])/\RunM W L r { P with c:=za4 P.c x P.ti } gt tc m gv vc t s sv tv/\Chg (fun b=>L b=1) w W:=by
 have hgr:r≠gt:=fun e=>by have h1:=h.lr;have h2:=h.sta.lt;rw[e]at h1;omega
 have hH:=fun (W:World) (h:RunM W L r P gt tc m gv vc t s sv tv)=>(zxm x P.ti hi hc hgr hb h.sta.tsk h.row).mono fun e W' q=>(⟨q.1,h.ctl (zo3 _ _ _) q.2.2 q.2.1,q.2.2⟩:e=Ending.returned (.tuple #[])/\RunM W' L r { P with c:=za4 P.c x P.ti } gt tc m gv vc t s sv tv/\Chg (·= r) W W');have hR:=zaa (h.keep (bel1 w (.cells #[.int .i64 x.k,.int .i64 x.n,.int .i64 x.s,.int .i64 x.i,.int .i64 x.r] 100)));have k0:w.cell? ⟨r,0,none⟩=some (.int .i64 P.ti):=h.row.cell rfl;have lr:=h.row.lt;have hl:=h.lr;obtain⟨xk,xn,xs,xi,xr⟩:=x;simp only at hk hH hR ⊢;subst hk;clear h hb hc hi;obtain⟨ti,hti⟩:∃ ti,P.ti=ti:=⟨_,rfl⟩;rw[hti]at k0 hH ⊢;clear hti
 go_enter Tryz.func120,Tryz.ntmps120
 go_wp2_with fail
 go_region_with (go_at_call 184;refine(hH _ hR.out.drew).mono ?_;rintro e w2 ⟨rfl,hr2,hc2⟩)
 all_goals
  go_wp2_with fail
  refine bodyPost_ret (v:=.tuple #[]) (results_none rfl _ _ _) rfl ?_;exact⟨rfl,hr2,((Chg.of (S:=fun b=>L b=1) (bel1 _ _)).drew).trans (hc2.mono fun b e=>by rw[e];exact hl)⟩
theorem ztb (x:MsgD)(hk:x.k≠2)(hh:hasB P.vs x.s x.i=true)(hf:x.n<(insG P.vs x.s x.i).h)(h:RunM w L r P gt tc m gv vc t s sv tv):Calls Tryz.prog 120 #[.pointer (some ⟨r,0,none⟩),.agg #[.int .i64 x.k,.int .i64 x.n,.int .i64 x.s,.int .i64 x.i,.int .i64 x.r]] w fun e W=>e=.returned (.tuple #[])/\Below w.heap.size w W:=by
 have hF:=fun (W:World) (hb:Below w.heap.size w W)=>zxd x hh hf (h.keep hb);obtain⟨xk,xn,xs,xi,xr⟩:=x;simp only at hk hF ⊢;clear h hf hh
 go_enter Tryz.func120,Tryz.ntmps120
 go_wp2_with (first|(go_at_call 185;refine(hF _ (bel1 _ _)).mono ?_;rintro e w2 ⟨rfl,hb2⟩))
 refine bodyPost_end (v:=.tuple #[]) (results_none rfl _ _ _) rfl ?_;exact⟨rfl,thn3 (bel1 _ _) hb2⟩
theorem zta (x:MsgD)(hk:x.k≠2)(hh:hasB P.vs x.s x.i=true)(hf:¬ x.n<(insG P.vs x.s x.i).h)(h:RunM w L r P gt tc m gv vc t s sv tv):Calls Tryz.prog 120 #[.pointer (some ⟨r,0,none⟩),.agg #[.int .i64 x.k,.int .i64 x.n,.int .i64 x.s,.int .i64 x.i,.int .i64 x.r]] w fun e W=>e=.returned (.tuple #[])/\∃ m' L',RunM W L' r { P with vs:=setI P.vs x.s x.i ⟨x.r,x.n⟩,ms:=za8 P.ms { x with k:=2 } } gt tc m' gv vc t s sv tv/\Lab w L L'/\Chg (fun b=>L b≠0) w W:=by
 have hF:=fun (W:World) (hb:Below w.heap.size w W)=>zxe x hh hf (h.keep hb);have hS:∀ (W:World),RunM W L r { P with vs:=setI P.vs x.s x.i ⟨x.r,x.n⟩ } gt tc m gv vc t s sv tv->Calls Tryz.prog 122 #[.pointer (some ⟨r,0,none⟩),.agg #[.int .i64 2,.int .i64 x.n,.int .i64 x.s,.int .i64 x.i,.int .i64 x.r]] W fun e W'=>(∃ b,e=.returned (.bool b))/\∃ m' L',RunM W' L' r { P with vs:=setI P.vs x.s x.i ⟨x.r,x.n⟩,ms:=za8 P.ms { x with k:=2 } } gt tc m' gv vc t s sv tv/\Lab W L L'/\Chg (fun b=>L b≠0) W W':=fun W hW=>by
  unfold za8;by_cases hl:40<=P.ms.length
  ·rw[if_pos hl];exact(zmd (P:={ P with vs:=setI P.vs x.s x.i ⟨x.r,x.n⟩ }) { x with k:=2 } hl hW).mono fun e W' q=>⟨⟨_,q.1⟩,m,L,hW.keep q.2,Lab.refl _ _,Chg.of q.2⟩
  ·rw[if_neg hl];refine(zme (P:={ P with vs:=setI P.vs x.s x.i ⟨x.r,x.n⟩ }) { x with k:=2 } (by show P.ms.length<40;omega) hW).mono fun e W' q=>?_;obtain⟨q1,m',L',q2,q3,q4⟩:=q;exact⟨⟨_,q1⟩,m',L',q2,q3,q4.mono fun b hb=>by omega⟩
 have lr:=h.row.lt;have hfr:=h.fr;obtain⟨xk,xn,xs,xi,xr⟩:=x;simp only at hk hF hS ⊢;clear h hf hh
 go_enter Tryz.func120,Tryz.ntmps120
 go_wp2_with (first
  |(go_at_call 185;refine(hF _ (bel1 _ _)).mono ?_;rintro e w2 ⟨rfl,hr2,hc2⟩;have Z2:=zaa (hc2.row (show RowIs (w.alloc (.cells #[.int .i64 xk,.int .i64 xn,.int .i64 xs,.int .i64 xi,.int .i64 xr] 100)) w.heap.size 100 [.int .i64 xk,.int .i64 xn,.int .i64 xs,.int .i64 xi,.int .i64 xr]from zal _ _) (by rw[hfr _ (xo _)];omega));have y0:=Z2.out.cell (j:=0) rfl;have y1:=Z2.out.cell (j:=1) rfl;have y2:=Z2.out.cell (j:=2) rfl;have y3:=Z2.out.cell (j:=3) rfl;have y4:=Z2.out.cell (j:=4) rfl;have f0:=Z2.out.frozen 0;have hX:=zaa ((Chg.refl (·= w.heap.size) w2).set (p:=⟨w.heap.size,0,none⟩) (.inl rfl) (.int .i64 2));have hr3:=zaa (hr2.out hX.out (fun b hb=>by rw[hb];exact hfr _ (xo _))))
  |(go_at_call 122;refine(hS _ hr3.out).mono ?_;rintro e w4 ⟨⟨bb,rfl⟩,m',L',hr4,hl4,hc4⟩))
 refine bodyPost_end (v:=.tuple #[]) (results_none rfl _ _ _) rfl ?_;have z2:=hc2.size;refine⟨rfl,m',L',hr4,fun b hb=>hl4 b ?_,((((Chg.of (S:=fun b=>L b≠0) (bel1 _ _)).trans (hc2.mono fun b hb=>by omega)).set (p:=⟨w.heap.size,0,none⟩) (.inr (xo _)) _)).trans hc4⟩;simp[qf]at z2 ⊢;omega
theorem zs9 (x:MsgD)(hi:0<=x.i/\x.i<3)(hh:hasB P.vs x.s x.i=true)(hc:P.c.wk=true->zby P.c)(hb:0<=P.ti/\P.ti<=4000000000/\0<=P.c.rest/\P.c.rest<=4000000000)(h:RunM w L r P gt tc m gv vc t s sv tv):Calls Tryz.prog 120 #[.pointer (some ⟨r,0,none⟩),.agg #[.int .i64 x.k,.int .i64 x.n,.int .i64 x.s,.int .i64 x.i,.int .i64 x.r]] w fun e W=>e=.returned (.tuple #[])/\∃ m' L',RunM W L' r (arrP P x) gt tc m' gv vc t s sv tv/\Lab w L L'/\Chg (fun b=>L b≠0) w W:=by
 unfold arrP;by_cases hk:x.k=2
 ·rw[if_pos hk];exact(zs8 x hk hi hc hb h).mono fun e W q=>⟨q.1,m,L,q.2.1,Lab.refl _ _,q.2.2.mono fun b hb=>by omega⟩
 ·rw[if_neg hk];by_cases hf:x.n<(insG P.vs x.s x.i).h
  ·have e:folB P.vs x=false:=by unfold folB;rw[hh,decide_eq_true hf];rfl
   rw[e];exact(ztb x hk hh hf h).mono fun e W q=>⟨q.1,m,L,by simpa using h.keep q.2,Lab.refl _ _,Chg.of q.2⟩
  ·have e:folB P.vs x=true:=by unfold folB;rw[hh,decide_eq_false hf];rfl
   rw[if_pos e];have e2:folV P.vs x=setI P.vs x.s x.i ⟨x.r,x.n⟩:=by unfold folV;rw[if_pos e]
   rw[e2];exact zta x hk hh hf h
end
section
variable {w W:World}{L L':Nat->Nat}{r:Nat}{P:zad}{gt tc:Nat}{m:Value}{gv vc:Nat}{t s:Value}{sv:List (Value×Value)}{tv:List (Int×Value)}
theorem RunM.topi (h:RunM w L r P gt tc m gv vc t s sv tv){i:Nat}{T:TopD}(hT:P.ts[i]?=some T):∃ (g cap:Nat) (v:Value),t=.slice (some ⟨g,0,none⟩) P.ts.length cap/\P.ts.length<=cap/\L g=5/\g<w.heap.size/\tv[i]?=some (T.keep,v)/\w.cell? ⟨g,i*2,none⟩=some (.int .i64 T.keep)/\w.cell? ⟨g,i*2+1,none⟩=some v/\w.frozen? ⟨g,i*2+1,none⟩=false/\Own w L (11+2*i) 197 3 v T.recs.length (T.recs.flatMap recF):=by
 have hi:=(xe.1 hT).1;have htk:=h.tk;obtain⟨q,hq,hk⟩:∃ q,tv[i]?=some q/\q.1=T.keep:=by
  have:=congrArg (fun l=>l[i]?) htk;simp only[xj,hT]at this;cases hq:tv[i]? with
  |none=>rw[hq]at this;cases this
  |some q=>rw[hq]at this;exact⟨q,rfl,by simpa using this⟩
 obtain⟨k,v⟩:=q;simp only at hk;subst hk;obtain⟨g,cap,e,hg,hc1,hc2,lg,hcell,hfz⟩:=h.top.some (by omega);exact⟨g,cap,v,e,hc1,hg,lg,hq,hcell (i*2+0) _ (za2 (f:=topF) (k:=2) (fun _=>rfl) hq (by omega)),hcell (i*2+1) _ (za2 (f:=topF) (k:=2) (fun _=>rfl) hq (by omega)),hfz _,h.rcs i T _ hT hq⟩
theorem RunM.tops (h:RunM w L r P gt tc m gv vc t s sv tv){i:Nat}{T T':TopD}{v':Value}(hT:P.ts[i]?=some T)(hk:T'.keep=T.keep)(hc:Chg (fun b=>L b=5\/L b=11+2*i) w W)(hL:Lab w L L')(hf:∀ b,W.heap.size<=b->L' b=0)
  (ho:Own W L' (11+2*i) 197 3 v' T'.recs.length (T'.recs.flatMap recF)) (ht:Own W L' 5 216 2 t P.ts.length ((tv.set i (T.keep,v')).flatMap topF)):RunM W L' r { P with ts:=P.ts.set i T' } gt tc m gv vc t s sv (tv.set i (T.keep,v')):=by
 have hi:=(xe.1 hT).1;obtain⟨_,_,v,_,_,_,_,hq,_⟩:=h.topi hT;refine⟨hc.row h.row (by rw[h.lr];omega),(hL r h.row.lt).trans h.lr,hf,xf h.gtl hc.size,xf h.gvl hc.size,h.vcl,h.sta.to h.gtl h.gvl hc (fun b hb=>by omega) hL,h.msg.to hc (fun b hb=>by omega) hL,fun k V q h1 h2=>(h.ins k V q h1 h2).to hc (fun b hb=>by omega) hL,?_,?_,fun k T2 q h1 h2=>?_⟩
 ·show Own W L' 5 _ 2 t (P.ts.set i T').length _;rw[qd];exact ht
 ·show (tv.set i (T.keep,v')).map Prod.fst=(P.ts.set i T').map TopD.keep;rw[qg,qg,h.tk,hk]
 ·have h3:(P.ts.set i T')[k]?=some T2:=h1;rw[xz]at h3 h2;have hil:i<tv.length:=(xe.1 hq).1;by_cases e:i=k
  ·subst e;rw[if_pos rfl,if_pos hi]at h3;rw[if_pos rfl,if_pos hil]at h2;obtain rfl:T'=T2:=by simpa using h3
   obtain rfl:(T.keep,v')=q:=by simpa using h2
   exact ho
  ·rw[if_neg e]at h3 h2;exact(h.rcs k T2 q h3 h2).to hc (fun b hb=>by omega) hL
theorem zw7 {l:List RecD}{p:RecD->Bool}{i:Nat}{x:RecD}(h:l[i]?=some x):(l.take (i+1)).filter p=if p x then (l.take i).filter p++[x] else (l.take i).filter p:=by
 rw[xy,h,List.filter_append];show _++[x].filter p=_;cases hp:p x<;>simp[hp]
theorem Tryz.infoRecK:(Tryz.prog.info? 197).map (fun i=>(i.zero,i.size,i.bytes))=some (some (.agg #[.string ⟨#[]⟩,.string ⟨#[]⟩,.int .i64 0]),3,40):=by kernel_rfl
theorem zxf {i:Nat}{T T':TopD}{n base g cap:Nat}{v:Value}(h:RunM w L r P gt tc m gv vc t s sv tv)(hT:P.ts[i]?=some T)(hk:T'.keep=T.keep)(hb:Below w.heap.size w W)(ht:t=.slice (some ⟨g,0,none⟩) P.ts.length cap)(hn:n=T'.recs.length)(hown:W.ownsRow base 197 3 v n (T'.recs.flatMap recF))(hz:w.heap.size<=base) :
  ∃ L',RunM (W.setCell ⟨g,i*2+1,none⟩ v) L' r { P with ts:=P.ts.set i T' } gt tc m gv vc t s sv (tv.set i (T.keep,v))/\Lab w L L'/\Chg (fun b=>L b=5\/L b=11+2*i) w (W.setCell ⟨g,i*2+1,none⟩ v):=by
 obtain⟨g',cap',v0,e,hc1,hg,lg,hq,_⟩:=h.topi hT;obtain⟨rfl,rfl⟩:g=g'/\cap=cap':=by rw[e]at ht;simpa[eq_comm]using ht
 have hlt:=qi hown;have hL:Lab w L (fun b=>if v.ownBlock=some b then 11+2*i else L b):=fun b hb=>by
  show (if v.ownBlock=some b then 11+2*i else L b)=L b;rw[if_neg (fun e=>by have:=(hlt b e).1;omega)]
 have hc:Chg (fun b=>L b=5\/L b=11+2*i) w (W.setCell ⟨g,i*2+1,none⟩ v):=(Chg.of (S:=fun b=>L b=5\/L b=11+2*i) hb).set (p:=⟨g,i*2+1,none⟩) (.inl (.inl hg)) _;have hzb:=hb.size;refine⟨_,h.tops hT hk hc hL (fun b hb'=>?_) ⟨?_,fun b hb=>if_pos hb⟩ ⟨?_,fun b hb=>?_⟩,hL,hc⟩
 ·have hz1:W.heap.size<=b:=by simpa[qf]using hb'
  show (if v.ownBlock=some b then 11+2*i else L b)=0;rw[if_neg (fun e=>by have:=(hlt b e).2;omega)];exact h.fr b (by omega)
 ·have:=((Chg.refl (·= g) W).set (p:=⟨g,i*2+1,none⟩) (.inl rfl) v).own hown (fun b hb e=>by have:=(hlt b hb).1;omega);rw[<- hn];exact this.mono (qh _)
 ·have h5:=zas h.top.1 hb;rw[ht]at h5 ⊢;have h6:=(xm h5 (i*2+1) v).1;rw[zeh (f:=topF) (k:=2) (fun _=>rfl) hq (j:=1) (u:=v) (y:=(T.keep,v)) (by omega) rfl]at h6;exact h6
 ·rw[ht]at hb;have:g=b:=by simpa[qe]using hb
  subst this;exact(hL g lg).trans hg
theorem zxh {i:Nat}{T:TopD}{g cap:Nat}(time:Int)(hT:P.ts[i]?=some T)(hk:T.keep<=0)(ht:t=.slice (some ⟨g,0,none⟩) P.ts.length cap)(h:RunM w L r P gt tc m gv vc t s sv tv):Calls Tryz.prog 182 #[.pointer (some ⟨g,i*2,none⟩),.int .i64 time] w fun e W=>e=.returned (.tuple #[])/\W=w:=by
 obtain⟨g',cap',v0,e,hc1,hg,lg,hq,c0,c1,_⟩:=h.topi hT;obtain⟨rfl,rfl⟩:g=g'/\cap=cap':=by rw[e]at ht;simpa[eq_comm]using ht
 clear h hT hq ht e;generalize T.keep=K at *
 go_enter Tryz.func182,Tryz.ntmps182
 go_wp2_with fail
 refine bodyPost_ret (v:=.tuple #[]) (results_none rfl _ _ _) rfl ?_;exact⟨rfl,rfl⟩
theorem zxg {i:Nat}{T:TopD}{g cap:Nat}(time:Int)(hT:P.ts[i]?=some T)(hk:0<T.keep)(ht:t=.slice (some ⟨g,0,none⟩) P.ts.length cap)(hti:0<=time/\time<=4000000000)(hl:T.recs.length<=12)(hrt:∀ x∈T.recs,0<=x.ti/\x.ti<=4000000000)(h:RunM w L r P gt tc m gv vc t s sv tv) :
  Calls Tryz.prog 182 #[.pointer (some ⟨g,i*2,none⟩),.int .i64 time] w fun e W=>e=.returned (.tuple #[])/\∃ v L',RunM W L' r { P with ts:=P.ts.set i (fgtT time T) } gt tc m gv vc t s sv (tv.set i (T.keep,v))/\Lab w L L'/\Chg (fun b=>L b=5\/L b=11+2*i) w W:=by
 obtain⟨iM,hiM,zM0,zM1,zM2⟩:=info_parts Tryz.infoRecK;obtain⟨g',cap',v0,e,hc1,hg,lg,hq,c0,c1,x1,ho⟩:=h.topi hT;obtain⟨rfl,rfl⟩:g=g'/\cap=cap':=by rw[e]at ht;simpa[eq_comm]using ht
 obtain⟨ad,rcap,hv,hr1,hr2⟩:=ho.len;subst hv;have H:=zaa h;have HT:=zaa hT;have HTT:=zaa ht;have HO:=zaa ho;have HRT:=zaa hrt;have e2:Hid ((fgtT time T).recs=T.recs.filter fun x=>decide (time-x.ti<T.keep)):=by show _=_;unfold fgtT;rw[if_neg (by omega)]
 have e3:Hid ((fgtT time T).keep=T.keep):=by show _=_;unfold fgtT;split<;>rfl
 obtain⟨K,hK⟩:∃ K,T.keep=K:=⟨_,rfl⟩;obtain⟨R,hR⟩:∃ R,T.recs=R:=⟨_,rfl⟩;rw[hK]at hk c0 e2;rw[hR]at c1 hl hr1 HO HRT e2;have HK:=zaa hK;have HR:=zaa hR;obtain⟨n,hn⟩:∃ n,n=R.length:=⟨_,rfl⟩;rw[<- hn]at c1 hl hr1 HO;have HN:=zaa hn;clear h hT hq ht e ho hrt hK hR hn;have O0:=zaa (World.ownsRow_made (base:=w.heap.size) (e:=197) (size:=3) w #[] 0 (xo _) (by unfold maxLen;omega) rfl)
 go_enter Tryz.func182,Tryz.ntmps182
 go_wp2_with fail
 go_loopw [4,18] (fun vt vi wr=>∃ j:Nat,j<=n/\vi=.int .i64 j/\wr.ownsRow w.heap.size 197 3 vt ((R.take j).filter fun x=>decide (time-x.ti<K)).length (((R.take j).filter fun x=>decide (time-x.ti<K)).flatMap recF)/\Below w.heap.size w wr) (fun _ j _=>n-(intOf j).toNat)
 case atStart=>exact⟨0,qh _,rfl,by simpa using O0.out,bel1 _ _⟩
 case round =>
  obtain⟨j,hj,rfl,hown,hb⟩:=hrel
  rename World=>w5
  have HOWN:=zaa hown;have HB:=zaa hb;have zb:=hb.size;have hx0 := znn j;have hll:((R.take j).filter fun x=>decide (time-x.ti<K)).length<=12:=by
   have:=List.length_filter_le (fun x:RecD=>decide (time-x.ti<K)) (R.take j);rw[xq]at this;have:=HN.out;omega
  by_cases hlt:j<n
  ·obtain⟨x,hx⟩:∃ x,R[j]?=some x:=⟨R[j]'(by rw[<- HN.out];exact hlt),xg _⟩;obtain⟨gr,cp,hsl,_,_,_,lgr,hcell,_⟩:=(HO.out.keep hb).some (by omega);obtain⟨rfl,rfl⟩:ad=some ⟨gr,0,none⟩/\rcap=cp:=by simpa using hsl
   have d0:=hcell (j*3+0) _ (za2 (f:=recF) (k:=3) (fun _=>rfl) hx (by omega));have d1:=hcell (j*3+1) _ (za2 (f:=recF) (k:=3) (fun _=>rfl) hx (by omega));have d2:=hcell (j*3+2) _ (za2 (f:=recF) (k:=3) (fun _=>rfl) hx (by omega));have hb0:=HRT.out x (List.mem_of_getElem? hx);have HE:=zaa (zw7 (p:=fun x=>decide (time-x.ti<K)) hx);obtain⟨xc,xd,xt⟩:=x;have d0:w5.cell? ⟨gr,j*3,none⟩=some (.string xc):=d0;have d1:w5.cell? ⟨gr,j*3+1,none⟩=some (.string xd):=d1;have d2:w5.cell? ⟨gr,j*3+2,none⟩=some (.int .i64 xt):=d2;simp only at hb0 HE;have c05:=zab hb c0;have hx1:(j:Int)<(n:Int):=by omega
   have nsz:gr≠w5.heap.size:=by omega
   have nsz2:g≠w5.heap.size:=by omega
   have lg5:g<w5.heap.size:=by omega
   clear hown hb hx hsl hcell c0 c1 x1;by_cases hp:time-xt<K
   ·generalize hJ:((R.take j).filter fun x=>decide (time-x.ti<K)).length=J at *
    go_wp2_with fail
    go_quiet (fail)
    go_wp2_with (at_builtin;refine wpList_append_lies _ rfl _ _ _ rfl w.heap.size 197 iM _ 3 40 Tryz.underlying194 hiM zM0 zM1 zM2 rfl (by omega) u4 J _ rfl ((HOWN.out.alloc _).alloc _) ⟨w5.heap.size+1,0,none⟩ 1 1 [.string xc,.string xd,.int .i64 xt] rfl rfl (World.news_of_block (nw2 _ _ _)) (by simp[Value.oneCell']) (by omega) (by unfold maxLen;omega) (by omega) (by simp;omega) (w5.heap.size+2) (by simp) ?_;intro g2 cap2 w8 hown2 hgrow2 hat2 hlt2)
    go_roundw
    case rel =>
     refine⟨j+1,by omega,by go_num,?_,?_⟩
     ·rw[HE.out,if_pos (decide_eq_true hp),List.length_append,hJ,List.flatMap_append];simpa[recF]using hown2
     ·exact Below.grown ((below_drewN (HB.out.alloc (by omega) _) _).alloc (by simp;omega) _) hgrow2 (by simp;omega) (fun k hk=>(HOWN.out.lt k hk).1)
    case measure=>simp[intOf];omega
   ·have hp':K<=time-xt:=by omega
    go_wp2_with fail
    go_quiet (fail)
    go_wp2_with fail
    go_roundw
    case rel =>
     refine⟨j+1,by omega,by go_num,?_,below_drewN (HB.out.alloc (by omega) _) _⟩;rw[HE.out,if_neg (by simpa using hp)];exact HOWN.out.alloc _
    case measure=>simp[intOf];omega
  ·obtain rfl:n=j:=by omega
   obtain⟨a',cap',hu⟩:∃ a' cap',u4=.slice a' ((R.take n).filter fun x=>decide (time-x.ti<K)).length cap':=by
    rcases hown.2 with⟨h1,h2⟩|⟨g,cap',cur,h1,_⟩
    ·exact⟨none,0,by rw[h1,h2]⟩
    ·exact⟨_,cap',h1⟩
   have HE:Hid ((R.take n).filter (fun x=>decide (time-x.ti<K))=(fgtT time T).recs):=by show _=_;rw[e2.out,HN.out,List.take_length]
   have c15:=zab hb c1;have x15:w5.frozen? ⟨g,i*2+1,none⟩=false:=by rw[hb.frozen (p:=⟨g,i*2+1,none⟩) lg];exact x1
   generalize hJ:((R.take n).filter fun x=>decide (time-x.ti<K)).length=J at *;subst hu;have ho:w5.ownsRow w.heap.size 197 3 (.slice a' J cap') J ((fgtT time T).recs.flatMap recF):=by
    have:=HOWN.out;rw[HE.out]at this;exact this
   have hn':J=(fgtT time T).recs.length:=by rw[<- HE.out];exact hJ.symm
   obtain⟨L',hM,hL,hC⟩:=zxf H.out HT.out e3.out hb HTT.out hn' ho (xo _);have HX:=zaa (⟨hM,hL,hC⟩:RunM (w5.setCell ⟨g,i*2+1,none⟩ (.slice a' J cap')) L' r { P with ts:=P.ts.set i (fgtT time T) } gt tc m gv vc t s sv (tv.set i (T.keep,.slice a' J cap'))/\Lab w L L'/\Chg (fun b=>L b=5\/L b=11+2*i) w (w5.setCell ⟨g,i*2+1,none⟩ (.slice a' J cap')));clear hown hb hM hL hC ho hn' hll hJ HOWN HO
   go_wp2_with fail
   refine bodyPost_end (v:=.tuple #[]) (results_none rfl _ _ _) rfl ?_;exact⟨rfl,_,L',HX.out⟩
theorem zhc (k:Int)(h:RunM w L r P gt tc m gv vc t s sv tv):Calls Tryz.prog 189 #[.pointer (some ⟨r,0,none⟩),.int .i64 k] w fun e W=>e=.returned (.bool (numB k P.ts.length))/\w=W:=by
 obtain⟨ad,cap,rfl,hc1,hc2⟩:=h.top.len;have k15:w.cell? ⟨r,15,none⟩=some (.slice ad P.ts.length cap):=h.row.cell rfl;have n1:=fun W=>za5 k (P.ts.length:Int) W;clear h;generalize P.ts.length=n at *
 go_enter Tryz.func189,Tryz.ntmps189
 go_wp2_with (first|(go_at_call 178;refine(n1 _).mono ?_;rintro e _ ⟨rfl,rfl⟩))
 go_ret;exact⟨rfl,rfl⟩
theorem ztr (k:Nat)(T:TopD)(hT:P.ts[k]?=some T)(h:RunM w L r P gt tc m gv vc t s sv tv):Calls Tryz.prog 127 #[.pointer (some ⟨r,0,none⟩),.int .i64 k] w fun e W=>∃ v,e=.returned v/\Own w L (11+2*k) 197 3 v T.recs.length (T.recs.flatMap recF)/\w=W:=by
 obtain⟨g,cap,v0,rfl,hc1,hg,lg,hq,c0,c1,x1,ho⟩:=h.topi hT;have hk:=(xe.1 hT).1;have k15:w.cell? ⟨r,15,none⟩=some (.slice (some ⟨g,0,none⟩) P.ts.length cap):=h.row.cell rfl;have n1:=zhc (k:Int) h;rw[show numB (k:Int) (P.ts.length:Int)=true by unfold numB;simp;omega]at n1;have hx0:(0:Int)<=(k:Int):=by omega
 have hx1:(k:Int)<(P.ts.length:Int):=by omega
 have HO:=zaa ho;clear h hT hq ho hk;generalize P.ts.length=n at *
 go_enter Tryz.func127,Tryz.ntmps127
 go_wp2_with (first|(go_at_call 189;refine n1.mono ?_;rintro e _ ⟨rfl,rfl⟩))
 go_ret;exact⟨_,rfl,HO.out,rfl⟩
end
section
theorem Chg.step {S:Nat->Prop}{L L':Nat->Nat}{w w1 W:World}(h:Chg (fun b=>L b≠0) w w1)(hL:Lab w L L')(k:Chg S w1 W)(hS:∀ b,S b->L' b≠0):Chg (fun b=>L b≠0) w W :=
 ⟨k.os.trans h.os,k.tape.trans h.tape,k.output.trans h.output,xv h.size k.size,fun b hb hn=>(k.block b (xf hb h.size) (fun q=>hS b q (by rw[hL b hb];simpa using hn))).trans (h.block b hb hn)⟩
variable {w W:World}{L L':Nat->Nat}{r:Nat}{P:zad}{gt tc:Nat}{m:Value}{gv vc:Nat}{t s:Value}{sv:List (Value×Value)}{tv:List (Int×Value)}
theorem RunM.time (h:RunM w L r P gt tc m gv vc t s sv tv)(x:Int):RunM (w.setCell ⟨r,0,none⟩ (.int .i64 x)) L r { P with ti:=x } gt tc m gv vc t s sv tv/\Chg (fun b=>L b≠0) w (w.setCell ⟨r,0,none⟩ (.int .i64 x)):=by
 have hc:=(Chg.refl (·= r) w).set (p:=⟨r,0,none⟩) (.inl rfl) (.int .i64 x);have key:∀ k,k≠1->∀ b,L b=k->¬ b=r:=fun k hk b hb e=>by subst e;rw[h.lr]at hb;omega
 exact⟨⟨h.row.set 0 _,h.lr,fun b hb'=>h.fr b (xv hc.size hb'),xf h.gtl hc.size,xf h.gvl hc.size,h.vcl,h.sta.chg hc (key 2 (by omega)),h.msg.chg hc (key 3 (by omega)),fun i V q h1 h2=>(h.ins i V q h1 h2).chg hc (key _ (by omega)),h.top.chg hc (key 5 (by omega)),h.tk,fun i T q h1 h2=>(h.rcs i T q h1 h2).chg hc (key _ (by omega))⟩,hc.mono fun b e=>by rw[e,h.lr];omega⟩
def fgtU (ti:Int)(ts:List TopD)(j:Nat):List TopD:=(ts.take j).map (fgtT ti)++ts.drop j
theorem zw1 (ti:Int)(ts:List TopD):fgtU ti ts 0=ts:=by simp[fgtU]
theorem zwx (ti:Int)(ts:List TopD):fgtU ti ts ts.length=ts.map (fgtT ti):=by simp[fgtU]
theorem zwz {ti:Int}{ts:List TopD}{j:Nat}(hj:j<=ts.length):(fgtU ti ts j).length=ts.length:=by simp[fgtU];omega
theorem zwy {ti:Int}{ts:List TopD}{j:Nat}{T:TopD}(h:ts[j]?=some T):(fgtU ti ts j)[j]?=some T:=by
 have hj:=(xe.1 h).1;unfold fgtU;rw[List.getElem?_append_right (by simp;omega)];simp only[xu,xq,List.getElem?_drop];rw[show j+(j-min j ts.length)=j by omega];exact h
theorem zw0 {ti:Int}{ts:List TopD}{j:Nat}{T:TopD}(h:ts[j]?=some T):fgtU ti ts (j+1)=(fgtU ti ts j).set j (fgtT ti T):=by
 have hj:=(xe.1 h).1;have hd:ts.drop j=T::ts.drop (j+1):=by rw[List.drop_eq_getElem_cons hj];congr 1;rw[xg hj]at h;simpa using h
 unfold fgtU;rw[xy,h,List.map_append,hd,List.set_append_right _ _ (by simp;omega)];simp only[xu,xq];rw[show j-min j ts.length=0 by omega,List.set_cons_zero];simp
theorem zmm (c:CtlD)(ti:Int):(actC c ti).ts=c.ts:=by
 have e:∀ c:CtlD,(cmdC c).ts=c.ts:=fun c=>by unfold cmdC;split<;>rfl
 have e2:(actA c ti).ts=c.ts:=by unfold actA;split<;>rfl
 unfold actC;split
 ·rfl
 ·split
  ·rw[e,e2]
  ·exact e2
structure zhh (P:zad):Prop where
 ti:0<=P.ti/\P.ti<4000000000
 nu:0<=P.c.nu/\P.c.nu<=4000000000
 cur:zaj P.c=false->zby P.c
 ts4:P.ts.length<=4
 rcs:∀ (i:Nat) (T:TopD),P.ts[i]?=some T->T.recs.length<=12/\∀ x∈T.recs,0<=x.ti/\x.ti<=4000000000
theorem zmc (x:MsgD)(h:RunM w L r P gt tc m gv vc t s sv tv):Calls Tryz.prog 122 #[.pointer (some ⟨r,0,none⟩),.agg #[.int .i64 x.k,.int .i64 x.n,.int .i64 x.s,.int .i64 x.i,.int .i64 x.r]] w fun e W=>e=.returned (.bool (decide (P.ms.length<40)))/\∃ m' L',RunM W L' r { P with ms:=za8 P.ms x } gt tc m' gv vc t s sv tv/\Lab w L L'/\Chg (fun b=>L b=1\/L b=3) w W:=by
 unfold za8;by_cases hl:40<=P.ms.length
 ·rw[if_pos hl,decide_eq_false (by omega)];exact(zmd x hl h).mono fun e W' q=>⟨q.1,m,L,h.keep q.2,Lab.refl _ _,Chg.of q.2⟩
 ·rw[if_neg hl,decide_eq_true (by omega)];exact zme x (by omega) h
end
end Go.Proofs.YtkkekopomiehlabGreatDoor
