import Derived.Test.YtkkekopomiehlabGreatDoorESp6
set_option linter.unusedVariables false
set_option linter.unusedSimpArgs false
set_option maxHeartbeats 40000000
set_option maxRecDepth 4000
open ByteArray renaming size_append->xe,empty->xf,append_assoc->xg,empty_append->xq
open Go.Op renaming stringOp->xh
open List renaming not_mem_nil->xj,mem_cons->xo,mem_of_getElem?->xu,zip_cons_cons->xv,range->xy,zip_nil_left->xz,all_eq_true->qd,mem_range->qg,map_cons->qh,map_nil->qi
open Bool renaming and_eq_true->xm
open Int renaming cast_ofNat_Int->xp,natCast_add->qf
open Nat renaming le_refl->qe
open Go.RowKit
namespace Go.Proofs.YtkkekopomiehlabGreatDoor
section
set_option maxRecDepth 100000
def tlK (c:Nat):Nat:=match c with
 |0=>6
 |1=>6
 |2=>9
 |3=>10
 |_=>6
def tlG (c:Nat):Nat:=match c with
 |0=>2
 |1=>3
 |2=>4
 |3=>5
 |_=>3
def tlV (c:Nat):List Nat:=match c with
 |0=>[0,1,2]
 |1=>[0,1,3]
 |2=>[0,1,4]
 |3=>[0,1,2,5]
 |_=>[0,1,3]
def tlB (c:Nat)(C:ChD):Bool:=sndB C&&(decide ((touS C (tlK c)).length=tlK c)&&(zhp (touS C (tlK c)) C.wnt (tlG c) (tlV c) (tlM c)&&(amB C (tlM c)&&decide (sfN C (begD C) (tlM c)=(tlM c).length))))
theorem yads:tlB 0 (zai (tlF 0 1 1 1))=true:=by decide +kernel
theorem yadt:tlB 1 (zai (tlF 1 1 1 1))=true:=by decide +kernel
theorem yadu:tlB 2 (zai (tlF 2 1 1 1))=true:=by decide +kernel
theorem yadv:tlB 3 (zai (tlF 3 1 1 1))=true:=by decide +kernel
theorem yadw:tlB 4 (zai (tlF 4 1 1 1))=true:=by decide +kernel
theorem yady:((xy 5).all fun c=>(xy 6).all fun k=>(xy 3).all fun a=>(xy 3).all fun b=>ordB (tlF c ((k+1:Nat):Int) ((a+1:Nat):Int) ((b+1:Nat):Int)))=true:=by decide +kernel
theorem yadz {c:Nat}(hc:c<5){k a b:Int}(hk:1<=k/\k<=6)(ha:1<=a/\a<=3)(hb:1<=b/\b<=3):ordB (tlF c k a b)=true:=by
 have h:=yady;simp only[qd,qg]at h;have:=h c hc (k-1).toNat (by omega) (a-1).toNat (by omega) (b-1).toNat (by omega);rw[show (((k-1).toNat+1:Nat):Int)=k by omega,show (((a-1).toNat+1:Nat):Int)=a by omega,show (((b-1).toNat+1:Nat):Int)=b by omega]at this;exact this
theorem yadx {c:Nat}(hc:c<5){k a b:Int}(hk:1<=k):zai (tlF c k a b)=zai (tlF c 1 1 1):=by
 have h0:(k == 0)=false:=by simp;omega
 have:c=0\/c=1\/c=2\/c=3\/c=4:=by omega
 rcases this with rfl|rfl|rfl|rfl|rfl
 iterate 2
  ·exact zga rfl rfl (by show [k == 0]=[false];rw[h0])
 ·exact zga rfl rfl rfl
 iterate 2
  ·exact zga rfl rfl (by show [k == 0]=[false];rw[h0])
theorem yadr {c:Nat}(hc:c<5){k a b:Int}(hk:1<=k):tlB c (zai (tlF c k a b))=true:=by
 rw[yadx hc hk];have:c=0\/c=1\/c=2\/c=3\/c=4:=by omega
 rcases this with rfl|rfl|rfl|rfl|rfl
 ·exact yads
 ·exact yadt
 ·exact yadu
 ·exact yadv
 ·exact yadw
theorem yadp (c:Nat):tlK c<=512:=by unfold tlK;split<;>omega
theorem yadq (c:Nat):(tlM c).length<=3:=by unfold tlM;split<;>simp
theorem yad0 {c:Nat}(hc:c<5){k a b:Int}(hk:1<=k/\k<=6)(ha:1<=a/\a<=3)(hb:1<=b/\b<=3){f:zac}(hf:f=tlF c k a b):PlanIs f 512 (tlM c) 0/\zbd f (tlM c)=(((tlM c).length:Int),0):=by
 have h1:=yadz hc hk ha hb;have h2:=yadr hc (k:=k) (a:=a) (b:=b) hk.1;rw[<- hf]at h1 h2;clear hf;unfold tlB at h2;simp only[xm,decide_eq_true_eq]at h2;obtain⟨q1,q2,q3,q4,q5⟩:=h2;refine⟨yaak h1 rfl q1 q2 (yadp c) q3,?_⟩;unfold zbd;rw[if_pos h1,if_pos q4,if_pos q1,q5]
end
section
structure Tlf (f:zac):Prop where
 ts:∃ k,f.ts=[k]/\0<=k/\k<=6
 pin:∀ v∈f.vs,∀ ps∈v.rels,∃ p:PinD,ps=[p]/\p.t=0
theorem tl_f {c:Nat}{k a b:Int}(hk:1<=k/\k<=6):Tlf (tlF c k a b):=by
 unfold tlF;split
 all_goals
  refine⟨?_,?_⟩
  ·first
    |exact⟨k,rfl,by omega,by omega⟩
    |exact⟨0,rfl,by omega,by omega⟩
  ·intro v hv ps hps;simp only[xo,xj,or_false,svW,svR,svR3,svO]at hv
   first
    |(rcases hv with rfl|rfl<;>simp only[xo,xj,or_false]at hps<;>first|(rcases hps with rfl|rfl<;>exact⟨_,rfl,rfl⟩)|(rcases hps with rfl|rfl|rfl<;>exact⟨_,rfl,rfl⟩))
    |(subst hv;simp only[xo,xj,or_false]at hps;rcases hps with rfl|rfl|rfl<;>exact⟨_,rfl,rfl⟩)
theorem zqm {p:PinD}(h:p.t=0):pinO [p] (0:Nat)=p:=by
 unfold pinO;have:(p.t == ((0:Nat):Int))=true:=by rw[h];rfl
 simp only[List.find?,this]
theorem zqo {ns nt:Nat}{p:PinD}(h:za7 ns nt [p]=true):(p.w=-1\/numB p.w ns=true)/\(p.r=-1\/numB p.r ns=true):=by
 unfold za7 at h;simp only[xm,qd,qg]at h;have h0:=h.2 0 (by simp);unfold pinK at h0;simp only[List.getElem?_cons_zero,xm]at h0;have h1:=h0.1;unfold pinB at h1;simp only[xm,Bool.or_eq_true,beq_iff_eq]at h1;exact⟨h1.1.2,h1.2⟩
theorem zyp {k:Int}{n:Nat}(h:numB k n=true):0<=k:=by
 unfold numB at h;simp at h;omega
variable {w0 w W:World}{L:Nat->Nat}{gb r:Nat}{b:zav}{f:zac}{ms:List (Int×Int)}{N:Int}
theorem yaer (hT:Tab w0)(s:Nat)(v:SvcD)(i:Nat)(w:World)(hv:f.vs[s]?=some v)(hi:(i:Int)<v.size)(h:Std w0 gb r f ms false N w):VwOk w gb s i:=by
 obtain⟨b,L,hB,hI,rfl,rfl,hta⟩:=h;have ho:=zb3 hI.sf.ob;have h4:=ho.ts4;exact yaeu s i hta (by omega) (fun t ht W hb=>hI.sees hv hi ht hT (hB.keep hb)) hB
theorem BookE.s (h:BookE w0 w L gb r b):∃ sa sc,∀ W,Below w.heap.size w W->W.cell? ⟨gb,0,none⟩=some (.slice sa b.f.ss.length sc)/\W.cell? ⟨gb,4,none⟩=some (.bool b.tale)/\W.cell? ⟨gb,5,none⟩=some (.pointer (some ⟨r,0,none⟩))/\StrsAt W sa b.f.ss:=by
 obtain⟨sa,ta,va,ma,sl,sc,tl,tc,vl,vc,mc,nv,h⟩:=h;refine⟨sa,sc,fun W hb=>?_⟩;have h':=h.keep hb;refine⟨?_,h'.row.cell rfl,h'.row.cell rfl,(h'.flt.keep h'.bel).s4⟩;have:=h'.row.cell (j:=0) rfl;rw[h'.flt.s1]at this;exact this
theorem yaes (hT:Tab w0)(htl:Tlf f)(hN:N<=2100000)(s:Nat)(v:SvcD)(i:Nat)(w:World)(hv:f.vs[s]?=some v)(hi:(i:Int)<v.size)(h:Std w0 gb r f ms true N w):VwOk w gb s i:=by
 obtain⟨b,L,hB,hI,rfl,rfl,hta⟩:=h;have ho:=zb3 hI.sf.ob;have hv3:=ho.vs3;have hs8:=ho.ss8;obtain⟨V,y,a,ps,hA⟩:=hI.inst hv hi;obtain⟨p,rfl,hpt⟩:=htl.pin v (xu hv) ps (xu hA.pv);obtain⟨k,hts,hk0,hk6⟩:=htl.ts;have hpo:=zqm hpt;obtain⟨sa,sc,hx⟩:=hB.s;have htl1:b.P.ts.length=1:=by rw[hI.tl,hts];rfl
 obtain⟨T,hTt⟩:∃ T,b.P.ts[0]?=some T:=⟨b.P.ts[0]'(by omega),List.getElem?_eq_getElem _⟩;have c1:∀ W,Below w.heap.size w W->Calls Tryz.prog 63 #[.pointer (some ⟨gb,0,none⟩),.int .i64 s,.int .i64 i] W fun e W'=>e=.returned (.tuple #[.int .i64 p.w,.int .i64 p.r,.bool true])/\Below W.heap.size W W':=fun W hb=>zm2 s i a hv (by omega) hA.hb (by rw[hA.ig];exact hA.hr) hA.pv rfl (hB.keep hb);rcases (zqo hA.pb).2 with hr|hr
 ·refine yaet (r:=r) s i p.w p.r (by omega) (fun W hb=>?_) c1 (fun W hb=>?_)
  ·obtain⟨_,h2,h3,_⟩:=hx W hb;exact⟨by rw[h2,hta],h3⟩
  ·have hn:numB (pinO [p] (0:Nat)).r b.P.ss.length=false:=by
    rw[hpo,hr];rfl
   exact zmj s i a V y [p] 0 (by omega) hA.hV hA.hy hA.hr hA.hps (by simp) hn ((hB.keep hb).tab hT).2
 ·have hr':numB (pinO [p] (0:Nat)).r b.f.ss.length=true:=by rw[hpo];exact hr
  obtain⟨rN,xr,er,hxr,esr⟩:=zgy hr;obtain⟨RT,hRT⟩:=hI.reads hv hA hTt hr';rw[hpo]at hRT;obtain⟨nt1,nt2⟩:=hI.nt hta T hTt;have hkT:T.keep=k:=by
   have:=hI.kp;rw[hts]at this;have h2:=congrArg (fun l=>l[0]?) this;simp only[List.getElem?_map,hTt]at h2;simpa using h2
  rw[hkT]at nt1;have hl12:=(hI.bn.rc 0 T hTt).1;have hlen:T.recs.length=(b.notes.filter (zay k b.ti)).length:=by rw[nt1,List.length_map]
  obtain⟨sb,so,hsa⟩:∃ sb so,sa=some ⟨sb,so,none⟩:=by
   obtain⟨_,_,_,hst⟩:=hx w (Below.refl _ _);obtain⟨sb,so,q,_⟩:=hst rN xr hxr;exact⟨sb,so,q⟩
  subst hsa;rw[er]at c1;refine yaev (r:=r) s i p.w rN b.f.ss sb so sc (b.notes.filter (zay k b.ti)) (fun x=>RT (zcy b.f.ss x)) xr hxr (by omega) (by omega) (fun W hb=>?_) (fun x hx'=>?_) (fun W hb=>((hB.keep hb).tab hT).1) c1 (fun W hb=>?_) (fun W hb=>?_)
  ·obtain⟨h1,h2,h3,h4⟩:=hx W hb;exact⟨by rw[h2,hta],h3,h1,h4⟩
  ·have hm:zcy b.f.ss x∈T.recs:=by rw[nt1];exact List.mem_map.2 ⟨x,hx',rfl⟩
   have hR:=hRT _ hm;obtain⟨y,s1,e1,e2,e3⟩:=zgy (nt2 x (List.mem_filter.1 hx').1).2;refine⟨y,s1,e1,e2,?_⟩;have h1:(zcy b.f.ss x).sc=s1:=e3;rw[h1,esr]at hR;exact hR
  ·refine(zmk s i a V y [p] 0 T RT hTt hl12 hA.hV hA.hy hA.hr hA.hps (by simp) (by rw[hI.ss];exact hr') (fun x hx' W' hb'=>?_) ((hB.keep hb).tab hT).2).mono ?_
   ·rw[hI.ss,hpo];refine((hRT x hx').2 W' (Tab.keep hb' ((hB.keep hb).tab hT).1)).mono ?_;rintro e W'' ⟨rfl,hb''⟩;exact⟨⟨0,rfl⟩,hb''⟩
   ·rintro e W' ⟨u,rfl,hO,hb'⟩;refine⟨u,rfl,?_,hb'⟩;rw[<- hlen];have:(T.recs.map fun x=>Value.string (RT x))=((b.notes.filter (zay k b.ti)).map fun x=>Value.string (RT (zcy b.f.ss x))):=by
     rw[nt1,List.map_map];rfl
    rw[<- this];exact hO
  ·have hnn:=hI.nn;have hti:=hI.bn.ti;refine zqx k (by rw[hts];rfl) ⟨hk0,hk6⟩ (by rw[hI.ti];omega) (by omega) (fun x hx'=>(nt2 x hx').1) (hB.keep hb)
end
section
variable {w0 w W:World}{L:Nat->Nat}{gb r:Nat}{b:zav}
theorem yaau {x:StD}{Q:World->Prop}{v:SvcD}(hta:b.tale=false)(ha:-9223372036854775808<=x.a/\x.a<=9223372036854775807)(hb:-9223372036854775808<=x.b/\x.b<=9223372036854775807)(hl0:0<b.f.vs.length)(hl:b.f.vs.length<=2000000)(hv:b.f.vs[pckN x.a b.f.vs.length]?=some v){z:Nat}(hvz:v.size=z)(hz0:0<z)(hz:z<=2000000)(h:BookE w0 w L gb r b)
  (c3:∀ W,Below w.heap.size w W->Calls Tryz.prog 94 #[.pointer (some ⟨r,0,none⟩),.int .i64 (pckN x.a b.f.vs.length:Nat),.int .i64 (pckN x.b z:Nat),.int .i64 x.c,.string x.s] W fun e W=>(∃ n,e=.returned (.int .i64 n))/\Q W) :
  Calls Tryz.prog 60 #[.pointer (some ⟨gb,0,none⟩),stV x] w fun e W=>e=.returned (.bool true)/\Q W:=by
 have c1:=fun W=>zcj x.a b.f.vs.length ha hl0 hl W;have c2:=fun W=>zcj x.b z hb hz0 hz W;have hlt:=h.y.2.2.2;obtain⟨va,ma,vc,mc,hV⟩:=h.v;have hsl:=zbn x.a hl0;obtain⟨bk,o,ra,rl,rc,hva,_⟩:=(hV w (Below.refl _ _)).1.vs _ v hv;subst hva;have HV:Hid (∀ W,Below w.heap.size w W->W.cell? ⟨gb,2,none⟩=some (.slice (some ⟨bk,o,none⟩) b.f.vs.length vc)/\W.cell? ⟨bk,o+pckN x.a b.f.vs.length*4,none⟩=some (.int .i64 z)/\W.cell? ⟨gb,4,none⟩=some (.bool false)/\W.cell? ⟨gb,5,none⟩=some (.pointer (some ⟨r,0,none⟩))):=by
  show ∀ _,_;intro W hbb;refine⟨(hV W hbb).1.x2,?_,by rw[<- hta];exact(h.keep hbb).ta,(hV W hbb).1.x5⟩;obtain⟨bk',o',ra',rl',rc',hq,d0,_⟩:=(hV W hbb).1.vs _ v hv;obtain⟨rfl,rfl⟩:bk=bk'/\o=o':=by simpa using hq
  rw[<- hvz];exact d0
 clear hV h hv hvz hta;generalize pckN x.a b.f.vs.length=s at *;generalize pckN x.b z=i at *;generalize b.f.vs.length=n at *;have hs0 := znn s;have hs1:(s:Int)<(n:Int):=by omega
 unfold stV;clear ha hb;obtain⟨xk,xa,xb,xc,xs⟩:=x;simp only at *;obtain⟨w1,hw1⟩:∃ w1,w1=w.alloc (.cells #[.int .i64 xk,.int .i64 xa,.int .i64 xb,.int .i64 xc,.string xs] 66):=⟨_,rfl⟩;have HB1:Hid (Below w.heap.size w w1):=by rw[hw1];exact bel1 _ _
 have R1:RowIs w1 w.heap.size 66 [.int .i64 xk,.int .i64 xa,.int .i64 xb,.int .i64 xc,.string xs]:=by rw[hw1];exact zal _ _
 have m1:w1.cell? ⟨w.heap.size,1,none⟩=some (.int .i64 xa):=R1.cell (j:=1) rfl;have m2:w1.cell? ⟨w.heap.size,2,none⟩=some (.int .i64 xb):=R1.cell (j:=2) rfl;have m3:w1.cell? ⟨w.heap.size,3,none⟩=some (.int .i64 xc):=R1.cell (j:=3) rfl;have m4:w1.cell? ⟨w.heap.size,4,none⟩=some (.string xs):=R1.cell (j:=4) rfl;clear R1;obtain⟨n2,n3,n4,n5⟩:=HV.out w1 HB1.out;have HW:=zaa hw1;clear hw1
 go_enter Tryz.func60,Tryz.ntmps60
 go_wp2_with fail
 rw[<- HW.out];clear HW;generalize w.heap.size=gx at *
 go_quiet ((go_at_call 42;exact Calls.quiet_of_same ((c1 _).mono fun e W q=>⟨q.1,q.2.symm⟩)))
 go_wp2_with fail
 have HB5:Hid (Below gx w (w1.drewN nq)):=⟨HB1.out.os,HB1.out.tape,HB1.out.output,HB1.out.size,HB1.out.block⟩;have p2:(w1.drewN nq).cell? ⟨gx,2,none⟩=some (.int .i64 xb):=m2;have p3:(w1.drewN nq).cell? ⟨gb,2,none⟩=some (.slice (some ⟨bk,o,none⟩) n vc):=n2;have p4:(w1.drewN nq).cell? ⟨bk,o+s*4,none⟩=some (.int .i64 z):=n3;have p5:(w1.drewN nq).cell? ⟨gb,4,none⟩=some (.bool false):=n4;have p6:(w1.drewN nq).cell? ⟨gb,5,none⟩=some (.pointer (some ⟨r,0,none⟩)):=n5;have p7:(w1.drewN nq).cell? ⟨gx,3,none⟩=some (.int .i64 xc):=m3;have p8:(w1.drewN nq).cell? ⟨gx,4,none⟩=some (.string xs):=m4;generalize w1.drewN nq=w5 at *;clear m1 m2 m3 m4 n2 n3 n4 n5 HB1 c1 HV
 go_quiet ((go_at_call 42;exact Calls.quiet_of_same ((c2 _).mono fun e W q=>⟨q.1,q.2.symm⟩)))
 have HB6:Hid (Below gx w (w5.drewN nq)):=⟨HB5.out.os,HB5.out.tape,HB5.out.output,HB5.out.size,HB5.out.block⟩;have q5:(w5.drewN nq).cell? ⟨gb,4,none⟩=some (.bool false):=p5;have q6:(w5.drewN nq).cell? ⟨gb,5,none⟩=some (.pointer (some ⟨r,0,none⟩)):=p6;have q7:(w5.drewN nq).cell? ⟨gx,3,none⟩=some (.int .i64 xc):=p7;have q8:(w5.drewN nq).cell? ⟨gx,4,none⟩=some (.string xs):=p8;generalize w5.drewN nq=w6 at *;clear p2 p3 p4 p5 p6 p7 p8 HB5
 go_wp2_with fail
 go_region_with (first
  |(go_at_call 94;refine(c3 _ (by first|exact HB6.out.drew|exact HB6.out)).mono ?_;rintro e w9 ⟨⟨er,rfl⟩,hq⟩))
 all_goals
  go_wp2_with fail
  go_ret;exact⟨rfl,hq⟩
end
section
theorem zx3:∀ (m n:Nat) (w:World),m<=20->n<=1000000000000000000->n<10 ^ (m+1) ->
  Calls Tryz.prog 237 #[.int .i64 n] w fun e w'=>e=.returned (.string (decS m n))/\Below w.heap.size w w':=by
 intro m
 induction m with
 |zero =>
  intro n w hm hn h1;have h10:n<10:=by simpa using h1
  have hr:Hid (decS 0 n=oneB (48+n)):=rfl;clear h1;have hc:=zj0 (w.alloc (.cells #[.int .u8 (48+n:Nat)] 5)) w.heap.size (48+n) (by omega) (zam rfl rfl);simp only[qf,xp]at hc
  go_enter Tryz.func237,Tryz.ntmps237
  go_wp2_with fail
  go_ret;exact⟨zen hr.out.symm,(Below.refl _ _).alloc (qe _) _⟩
 |succ m ih =>
  intro n w hm hn h1;by_cases h10:n<10
  ·have hr:Hid (decS (m+1) n=oneB (48+n)):=by show _=_;rw[decS,if_pos h10]
   clear h1;have hc:=zj0 (w.alloc (.cells #[.int .u8 (48+n:Nat)] 5)) w.heap.size (48+n) (by omega) (zam rfl rfl);simp only[qf,xp]at hc
   go_enter Tryz.func237,Tryz.ntmps237
   go_wp2_with fail
   go_ret;exact⟨zen hr.out.symm,(Below.refl _ _).alloc (qe _) _⟩
  ·have hr:Hid (decS (m+1) n=decS m (n / 10)++oneB (48+n % 10)):=by show _=_;rw[decS,if_neg h10]
   have hcall:=fun w=>ih (n / 10) w (by omega) (by omega) (by rw[Nat.pow_succ]at h1;omega);have hsz:=zeu m (n / 10);have hs1:(oneB (48+n % 10)).size=1:=rfl;clear h1 ih;simp only[Int.natCast_ediv,xp]at hcall;have hconv:=fun (W:World) (b:Nat) (h:W.cell? ⟨b,0,none⟩=some (.int .u8 (48+(n:Int) % 10)))=>zj0 W b (48+n % 10) (by omega) (by rw[h];simp);have ht:(n:Int).tmod 10=(n:Int) % 10:=Int.tmod_eq_emod_of_nonneg (by omega);have hw1:IntKind.i64.wrap ((n:Int) / 10)=(n:Int) / 10:=by rw[IntKind.wrap_i64];omega
   have hw2:IntKind.i64.wrap ((n:Int) % 10)=(n:Int) % 10:=by rw[IntKind.wrap_i64];omega
   have hw3:IntKind.i64.wrap (48+(n:Int) % 10)=48+(n:Int) % 10:=by rw[IntKind.wrap_i64];omega
   have hw4:IntKind.u8.wrap (48+(n:Int) % 10)=48+(n:Int) % 10:=by rw[IntKind.wrap_u8];omega
   go_enter Tryz.func237,Tryz.ntmps237
   go_wp2_with fail
   go_region_with (go_at_call 237;refine(hcall _).mono ?_;rintro e w1 ⟨rfl,hb1⟩;obtain⟨hc1,hf1⟩:=zap hb1)
   all_goals
    go_wp2_with fail
    go_ret;refine⟨zen hr.out.symm,?_⟩
    first|exact Below.trans (((Below.refl _ _).alloc (qe _) _).drew) (hb1.mono (by simp))|exact Below.alloc' ((Below.refl w.heap.size w).drew.trans (hb1.mono (by simp))) _
theorem zo9 (x:Int)(w:World)(h0:0<=x)(h1:x<=1000000000000000000) :
  Calls Tryz.prog 237 #[.int .i64 x] w fun e w'=>e=.returned (.string (decS 18 x.toNat))/\Below w.heap.size w w':=by
 obtain⟨n,rfl⟩:∃ n:Nat,x=n:=⟨x.toNat,by omega⟩;exact zx3 18 n w (by omega) (by omega) (by omega)
theorem zex (n:Int)(w:World)(h1:-1000000000000000000<=n)(h2:n<=1000000000000000000) :
  Calls Tryz.prog 186 #[.int .i64 n] w fun e w'=>e=.returned (.string (decI n))/\Below w.heap.size w w':=by
 by_cases hn:n<0
 ·have hr:Hid (decI n=⟨#[45]⟩++decS 18 (-n).toNat):=by show _=_;unfold decI;rw[if_pos hn]
  have hsz:=zeu 18 (-n).toNat;have hs1:(⟨#[45]⟩:ByteArray).size=1:=rfl
  go_enter Tryz.func186,Tryz.ntmps186
  go_wp2_with (go_at_call 237;refine(zo9 _ _ (by omega) (by omega)).mono ?_;rintro e w1 ⟨rfl,hb1⟩)
  go_ret;exact⟨zen hr.out.symm,hb1⟩
 ·have hr:Hid (decI n=decS 18 n.toNat):=by show _=_;unfold decI;rw[if_neg hn]
  go_enter Tryz.func186,Tryz.ntmps186
  go_wp2_with (go_at_call 237;refine(zo9 _ _ (by omega) (by omega)).mono ?_;rintro e w1 ⟨rfl,hb1⟩)
  go_ret;exact⟨zen hr.out.symm,hb1⟩
end
section
theorem zm9:∀ (m u:Nat),(codU m xf u).size<=m+1
 |0,u=>by rw[codU,xe,zak];simp
 |m+1,u=>by
  by_cases h:u<128
  ·rw[zhq h,zak];omega
  ·rw[zjz (by omega),xe,zak];have:=zm9 m (u / 128);omega
theorem zpq (a:Int):(zcp a).size<=9:=zm9 8 _
theorem lit3 {p q r m:ByteArray}(h:p++q++r=m)(x:ByteArray):p++(q++(r++x))=m++x:=by rw[<- h,xg,xg]
end
section
theorem ze5 (x:Int)(h:-1000<x/\x<1000):(decI x).size<=20:=by
 unfold decI;split
 ·have:=zeu 18 (-x).toNat;rw[xe];have e1:(⟨#[45]⟩:ByteArray).size=1:=rfl;omega
 ·have:=zeu 18 x.toNat;omega
def sayA (v:Int):ByteArray:=(⟨#[123,97,58]⟩++decI v)++⟨#[125]⟩
def sayX (v:Int):ByteArray:=(⟨#[123,97,58]⟩++decI v)++⟨#[44,98,58,34,120,34,125]⟩
theorem zro {s:ByteArray}{k m:Nat}(hk:k=105\/k=108)(hz:s.size=m+2)(hs:s.size<=60)(hp:pAll false s=some ⟨123,xf,false,[],[(97,za3 k,xf)]⟩){v:Int}(hv:-1000<v/\v<1000):(zau false s (sayA v)).2=0:=by
 have hl:=ze5 v hv;have ho:okV (m+1+1) ⟨123,xf,false,[],[(97,za3 k,xf)]⟩ (.rcd [.num v]):=by
  refine zgr ⟨rfl,by simp,rfl,fun p hp=>?_⟩;simp only[xv,xz,xo,xj,or_false]at hp;subst hp;rcases hk with rfl|rfl
  ·exact ze0 (.inl ⟨rfl,by omega,by omega⟩)
  ·exact ze0 (.inr ⟨rfl,by omega,by omega⟩)
 have ht:txtV (m+1+1) ⟨123,xf,false,[],[(97,za3 k,xf)]⟩ (.rcd [.num v])=sayA v:=by
  show zcb [(97,txtV (m+1) (za3 k) (.num v))] ⟨#[123]⟩ xf=_;simp only[zcb,xg,xq];rw[lit3 (p:=⟨#[123]⟩) (q:=oneB 97) (r:=⟨#[58]⟩) (m:=⟨#[123,97,58]⟩) (by decide +kernel)];unfold sayA;rw[xg];rfl
 have hd:(datV (m+2) (.rcd [.num v])).size<=64:=by
  rw[show m+2=m+1+1 from rfl,zeg];simp only[qh,qi,catB,xe];have h1:(datV (m+1) (.num v)).size<=9:=zpq v;have e0:ByteArray.empty.size=0:=rfl;omega
 have h4:(sayA v).size<=4096:=by
  unfold sayA;rw[xe,xe];have e1:(⟨#[123,97,58]⟩:ByteArray).size=3:=rfl;have e2:(⟨#[125]⟩:ByteArray).size=1:=rfl;omega
 have he:=zoh (s:=s) hs hp (v:=.rcd [.num v]) (by rw[hz];exact ho) (by rw[hz,ht];exact h4);rw[hz,ht,if_neg (by omega)]at he;rw[he]
theorem zli {s df:ByteArray}{k m:Nat}(hk:k=105\/k=108)(hz:s.size=m+2)(hs:s.size<=60)(hp:pAll false s=some ⟨123,xf,false,[],[(97,za3 k,xf),(98,za3 115,df)]⟩){v:Int}(hv:-1000<v/\v<1000):(zau false s (sayX v)).2=0:=by
 have hl:=ze5 v hv;have ho:okV (m+1+1) ⟨123,xf,false,[],[(97,za3 k,xf),(98,za3 115,df)]⟩ (.rcd [.num v,.str ⟨#[120]⟩]):=by
  refine zgr ⟨rfl,by simp,rfl,fun p hp=>?_⟩;simp only[xv,xz,xo,xj,or_false]at hp;rcases hp with rfl|rfl
  ·rcases hk with rfl|rfl
   ·exact ze0 (.inl ⟨rfl,by omega,by omega⟩)
   ·exact ze0 (.inr ⟨rfl,by omega,by omega⟩)
  ·exact zkx ⟨rfl,by decide,by decide⟩
 have ht:txtV (m+1+1) ⟨123,xf,false,[],[(97,za3 k,xf),(98,za3 115,df)]⟩ (.rcd [.num v,.str ⟨#[120]⟩])=sayX v:=by
  show zcb [(97,txtV (m+1) (za3 k) (.num v)),(98,txtV (m+1) (za3 115) (.str ⟨#[120]⟩))] ⟨#[123]⟩ xf=_;have e1:txtV (m+1) (za3 115) (.str ⟨#[120]⟩)=⟨#[34,120,34]⟩:=by rw[zg6];decide +kernel
  rw[e1];simp only[zcb,xg,xq];rw[lit3 (p:=⟨#[123]⟩) (q:=oneB 97) (r:=⟨#[58]⟩) (m:=⟨#[123,97,58]⟩) (by decide +kernel)];unfold sayX;rw[xg,show (⟨#[44]⟩++(oneB 98++(⟨#[58]⟩++(⟨#[34,120,34]⟩++⟨#[125]⟩))):ByteArray)=⟨#[44,98,58,34,120,34,125]⟩ by decide +kernel];rfl
 have hd:(datV (m+2) (.rcd [.num v,.str ⟨#[120]⟩])).size<=64:=by
  rw[show m+2=m+1+1 from rfl,zeg];simp only[qh,qi,catB,xe];have h1:(datV (m+1) (.num v)).size<=9:=zpq v;have h2:(datV (m+1) (.str ⟨#[120]⟩)).size=2:=by rw[zht,xe,zak];rfl
  have e0:ByteArray.empty.size=0:=rfl;omega
 have h4:(sayX v).size<=4096:=by
  unfold sayX;rw[xe,xe];have e1:(⟨#[123,97,58]⟩:ByteArray).size=3:=rfl;have e2:(⟨#[44,98,58,34,120,34,125]⟩:ByteArray).size=7:=rfl;omega
 have he:=zoh (s:=s) hs hp (v:=.rcd [.num v,.str ⟨#[120]⟩]) (by rw[hz];exact ho) (by rw[hz,ht];exact h4);rw[hz,ht,if_neg (by omega)]at he;rw[he]
def zbz (s:ByteArray)(w:World)(e:Ending)(W:World):Prop:=∃ t,e=.returned (.string t)/\(zau false s t).2=0/\t.size<=4096/\Below w.heap.size w W
theorem ze7 (c:Int):-1000<c.tmod 1000/\c.tmod 1000<1000:=by
 have h:=Int.natAbs_tmod c 1000;have h2:c.natAbs % (1000:Int).natAbs<(1000:Int).natAbs:=Nat.mod_lt _ (by decide);omega
theorem zim (c:Int)(w:World):Calls Tryz.prog 123 #[.string sAi,.int .i64 c] w fun e W=>zbz sAi w e W:=by
 have hb:=ze7 c;have c1:=fun W=>zex (c.tmod 1000) W (by omega) (by omega);have hl:=ze5 _ hb;have hE:=zaa (zro (k:=105) (m:=3) (s:=sAi) (.inl rfl) rfl (by decide) (by kernel_rfl) hb);unfold sayA at hE;generalize decI (c.tmod 1000)=T at *;have a1:xh .add ⟨#[123,97,58]⟩ T=(pure (.string (⟨#[123,97,58]⟩++T)):Sem Value):=zdk (by have e1:(⟨#[123,97,58]⟩:ByteArray).size=3:=rfl;omega);have a2:xh .add (⟨#[123,97,58]⟩++T) ⟨#[125]⟩=(pure (.string ((⟨#[123,97,58]⟩++T)++⟨#[125]⟩)):Sem Value):=zdk (by rw[xe];have e1:(⟨#[123,97,58]⟩:ByteArray).size=3:=rfl;have e2:(⟨#[125]⟩:ByteArray).size<=7:=(by decide);omega);have hz:((⟨#[123,97,58]⟩++T)++⟨#[125]⟩).size<=4096:=by rw[xe,xe];have e1:(⟨#[123,97,58]⟩:ByteArray).size=3:=rfl;have e2:(⟨#[125]⟩:ByteArray).size<=7:=(by decide);omega
 obtain⟨Q,hQ⟩:∃ Q,Q=zbz sAi w:=⟨_,rfl⟩;rw[<- hQ];have HQ:=zaa hQ;clear hQ;show Calls _ _ #[.string ⟨#[123,97,58,105,125]⟩,.int .i64 c] w _
 go_enter Tryz.func123,Tryz.ntmps123
 go_wp2_with (first|(go_at_call 186;refine(c1 _).mono ?_;rintro e w1 ⟨rfl,hb1⟩))
 rw[HQ.out];exact⟨_,rfl,hE.out,hz,hb1⟩
theorem yab2 (c:Int)(w:World):Calls Tryz.prog 123 #[.string sAl,.int .i64 c] w fun e W=>zbz sAl w e W:=by
 have hb:=ze7 c;have c1:=fun W=>zex (c.tmod 1000) W (by omega) (by omega);have hl:=ze5 _ hb;have hE:=zaa (zro (k:=108) (m:=3) (s:=sAl) (.inr rfl) rfl (by decide) (by kernel_rfl) hb);unfold sayA at hE;generalize decI (c.tmod 1000)=T at *;have a1:xh .add ⟨#[123,97,58]⟩ T=(pure (.string (⟨#[123,97,58]⟩++T)):Sem Value):=zdk (by have e1:(⟨#[123,97,58]⟩:ByteArray).size=3:=rfl;omega);have a2:xh .add (⟨#[123,97,58]⟩++T) ⟨#[125]⟩=(pure (.string ((⟨#[123,97,58]⟩++T)++⟨#[125]⟩)):Sem Value):=zdk (by rw[xe];have e1:(⟨#[123,97,58]⟩:ByteArray).size=3:=rfl;have e2:(⟨#[125]⟩:ByteArray).size<=7:=(by decide);omega);have hz:((⟨#[123,97,58]⟩++T)++⟨#[125]⟩).size<=4096:=by rw[xe,xe];have e1:(⟨#[123,97,58]⟩:ByteArray).size=3:=rfl;have e2:(⟨#[125]⟩:ByteArray).size<=7:=(by decide);omega
 obtain⟨Q,hQ⟩:∃ Q,Q=zbz sAl w:=⟨_,rfl⟩;rw[<- hQ];have HQ:=zaa hQ;clear hQ;show Calls _ _ #[.string ⟨#[123,97,58,108,125]⟩,.int .i64 c] w _
 go_enter Tryz.func123,Tryz.ntmps123
 go_wp2_with (first|(go_at_call 186;refine(c1 _).mono ?_;rintro e w1 ⟨rfl,hb1⟩))
 rw[HQ.out];exact⟨_,rfl,hE.out,hz,hb1⟩
theorem yab3 (c:Int)(w:World):Calls Tryz.prog 123 #[.string sAlb,.int .i64 c] w fun e W=>zbz sAlb w e W:=by
 have hb:=ze7 c;have c1:=fun W=>zex (c.tmod 1000) W (by omega) (by omega);have hl:=ze5 _ hb;have hE:=zaa (zli (df:=⟨#[34,45,34]⟩) (k:=108) (m:=11) (s:=sAlb) (.inr rfl) rfl (by decide) (by kernel_rfl) hb);unfold sayX at hE;generalize decI (c.tmod 1000)=T at *;have a1:xh .add ⟨#[123,97,58]⟩ T=(pure (.string (⟨#[123,97,58]⟩++T)):Sem Value):=zdk (by have e1:(⟨#[123,97,58]⟩:ByteArray).size=3:=rfl;omega);have a2:xh .add (⟨#[123,97,58]⟩++T) ⟨#[44,98,58,34,120,34,125]⟩=(pure (.string ((⟨#[123,97,58]⟩++T)++⟨#[44,98,58,34,120,34,125]⟩)):Sem Value):=zdk (by rw[xe];have e1:(⟨#[123,97,58]⟩:ByteArray).size=3:=rfl;have e2:(⟨#[44,98,58,34,120,34,125]⟩:ByteArray).size<=7:=(by decide);omega);have hz:((⟨#[123,97,58]⟩++T)++⟨#[44,98,58,34,120,34,125]⟩).size<=4096:=by rw[xe,xe];have e1:(⟨#[123,97,58]⟩:ByteArray).size=3:=rfl;have e2:(⟨#[44,98,58,34,120,34,125]⟩:ByteArray).size<=7:=(by decide);omega
 obtain⟨Q,hQ⟩:∃ Q,Q=zbz sAlb w:=⟨_,rfl⟩;rw[<- hQ];have HQ:=zaa hQ;clear hQ;show Calls _ _ #[.string ⟨#[123,97,58,108,44,98,58,115,61,34,45,34,125]⟩,.int .i64 c] w _
 go_enter Tryz.func123,Tryz.ntmps123
 go_wp2_with (first|(go_at_call 186;refine(c1 _).mono ?_;rintro e w1 ⟨rfl,hb1⟩))
 rw[HQ.out];exact⟨_,rfl,hE.out,hz,hb1⟩
theorem yab0 (c:Int)(w:World):Calls Tryz.prog 123 #[.string sAib,.int .i64 c] w fun e W=>zbz sAib w e W:=by
 have hb:=ze7 c;have c1:=fun W=>zex (c.tmod 1000) W (by omega) (by omega);have hl:=ze5 _ hb;have hE:=zaa (zli (df:=xf) (k:=105) (m:=7) (s:=sAib) (.inl rfl) rfl (by decide) (by kernel_rfl) hb);unfold sayX at hE;generalize decI (c.tmod 1000)=T at *;have a1:xh .add ⟨#[123,97,58]⟩ T=(pure (.string (⟨#[123,97,58]⟩++T)):Sem Value):=zdk (by have e1:(⟨#[123,97,58]⟩:ByteArray).size=3:=rfl;omega);have a2:xh .add (⟨#[123,97,58]⟩++T) ⟨#[44,98,58,34,120,34,125]⟩=(pure (.string ((⟨#[123,97,58]⟩++T)++⟨#[44,98,58,34,120,34,125]⟩)):Sem Value):=zdk (by rw[xe];have e1:(⟨#[123,97,58]⟩:ByteArray).size=3:=rfl;have e2:(⟨#[44,98,58,34,120,34,125]⟩:ByteArray).size<=7:=(by decide);omega);have hz:((⟨#[123,97,58]⟩++T)++⟨#[44,98,58,34,120,34,125]⟩).size<=4096:=by rw[xe,xe];have e1:(⟨#[123,97,58]⟩:ByteArray).size=3:=rfl;have e2:(⟨#[44,98,58,34,120,34,125]⟩:ByteArray).size<=7:=(by decide);omega
 obtain⟨Q,hQ⟩:∃ Q,Q=zbz sAib w:=⟨_,rfl⟩;rw[<- hQ];have HQ:=zaa hQ;clear hQ;show Calls _ _ #[.string ⟨#[123,97,58,105,44,98,58,115,125]⟩,.int .i64 c] w _
 go_enter Tryz.func123,Tryz.ntmps123
 go_wp2_with (first|(go_at_call 186;refine(c1 _).mono ?_;rintro e w1 ⟨rfl,hb1⟩))
 rw[HQ.out];exact⟨_,rfl,hE.out,hz,hb1⟩
theorem yab1 (c:Int)(w:World):Calls Tryz.prog 123 #[.string sAid,.int .i64 c] w fun e W=>zbz sAid w e W:=by
 have hb:=ze7 c;have c1:=fun W=>zex (c.tmod 1000) W (by omega) (by omega);have hl:=ze5 _ hb;have hE:=zaa (zli (df:=⟨#[34,45,34]⟩) (k:=105) (m:=11) (s:=sAid) (.inl rfl) rfl (by decide) (by kernel_rfl) hb);unfold sayX at hE;generalize decI (c.tmod 1000)=T at *;have a1:xh .add ⟨#[123,97,58]⟩ T=(pure (.string (⟨#[123,97,58]⟩++T)):Sem Value):=zdk (by have e1:(⟨#[123,97,58]⟩:ByteArray).size=3:=rfl;omega);have a2:xh .add (⟨#[123,97,58]⟩++T) ⟨#[44,98,58,34,120,34,125]⟩=(pure (.string ((⟨#[123,97,58]⟩++T)++⟨#[44,98,58,34,120,34,125]⟩)):Sem Value):=zdk (by rw[xe];have e1:(⟨#[123,97,58]⟩:ByteArray).size=3:=rfl;have e2:(⟨#[44,98,58,34,120,34,125]⟩:ByteArray).size<=7:=(by decide);omega);have hz:((⟨#[123,97,58]⟩++T)++⟨#[44,98,58,34,120,34,125]⟩).size<=4096:=by rw[xe,xe];have e1:(⟨#[123,97,58]⟩:ByteArray).size=3:=rfl;have e2:(⟨#[44,98,58,34,120,34,125]⟩:ByteArray).size<=7:=(by decide);omega
 obtain⟨Q,hQ⟩:∃ Q,Q=zbz sAid w:=⟨_,rfl⟩;rw[<- hQ];have HQ:=zaa hQ;clear hQ;show Calls _ _ #[.string ⟨#[123,97,58,105,44,98,58,115,61,34,45,34,125]⟩,.int .i64 c] w _
 go_enter Tryz.func123,Tryz.ntmps123
 go_wp2_with (first|(go_at_call 186;refine(c1 _).mono ?_;rintro e w1 ⟨rfl,hb1⟩))
 rw[HQ.out];exact⟨_,rfl,hE.out,hz,hb1⟩
theorem yabx:(zau false sAB ⟨#[97]⟩).2=0/\(zau false sAB ⟨#[98]⟩).2=0:=by decide +kernel
theorem yabz (c:Int)(hc:-9223372036854775808<=c/\c<=9223372036854775807)(w:World):Calls Tryz.prog 123 #[.string sAB,.int .i64 c] w fun e W=>zbz sAB w e W:=by
 have hb:=ze7 c;have c1:=fun W=>zex (c.tmod 1000) W (by omega) (by omega);have c2:=fun W=>zcj c 2 hc (by omega) (by omega) W;have hp:=zbn c (n:=2) (by omega);have hE:=zaa yabx;generalize decI (c.tmod 1000)=T at *;generalize pckN c 2=q at *;obtain⟨Q,hQ⟩:∃ Q,Q=zbz sAB w:=⟨_,rfl⟩;rw[<- hQ];have HQ:=zaa hQ;clear hQ hc;show Calls _ _ #[.string ⟨#[60,97,98,62]⟩,.int .i64 c] w _;have hq:q=0\/q=1:=by omega
 rcases hq with rfl|rfl
 ·go_enter Tryz.func123,Tryz.ntmps123
  go_wp2_with (first|(go_at_call 186;refine(c1 _).mono ?_;rintro e w1 ⟨rfl,hb1⟩)|(go_at_call 42;refine(c2 _).mono ?_;rintro e _ ⟨rfl,rfl⟩))
  rw[HQ.out];exact⟨⟨#[97]⟩,rfl,hE.out.1,by decide,hb1⟩
 ·go_enter Tryz.func123,Tryz.ntmps123
  go_wp2_with (first|(go_at_call 186;refine(c1 _).mono ?_;rintro e w1 ⟨rfl,hb1⟩)|(go_at_call 42;refine(c2 _).mono ?_;rintro e _ ⟨rfl,rfl⟩))
  rw[HQ.out];exact⟨⟨#[98]⟩,rfl,hE.out.2,by decide,hb1⟩
theorem yaby:(zau false sCD ⟨#[99]⟩).2=0/\(zau false sCD ⟨#[100]⟩).2=0:=by decide +kernel
theorem yab4 (c:Int)(hc:-9223372036854775808<=c/\c<=9223372036854775807)(w:World):Calls Tryz.prog 123 #[.string sCD,.int .i64 c] w fun e W=>zbz sCD w e W:=by
 have hb:=ze7 c;have c1:=fun W=>zex (c.tmod 1000) W (by omega) (by omega);have c2:=fun W=>zcj c 2 hc (by omega) (by omega) W;have hp:=zbn c (n:=2) (by omega);have hE:=zaa yaby;generalize decI (c.tmod 1000)=T at *;generalize pckN c 2=q at *;obtain⟨Q,hQ⟩:∃ Q,Q=zbz sCD w:=⟨_,rfl⟩;rw[<- hQ];have HQ:=zaa hQ;clear hQ hc;show Calls _ _ #[.string ⟨#[60,99,100,62]⟩,.int .i64 c] w _;have hq:q=0\/q=1:=by omega
 rcases hq with rfl|rfl
 ·go_enter Tryz.func123,Tryz.ntmps123
  go_wp2_with (first|(go_at_call 186;refine(c1 _).mono ?_;rintro e w1 ⟨rfl,hb1⟩)|(go_at_call 42;refine(c2 _).mono ?_;rintro e _ ⟨rfl,rfl⟩))
  rw[HQ.out];exact⟨⟨#[99]⟩,rfl,hE.out.1,by decide,hb1⟩
 ·go_enter Tryz.func123,Tryz.ntmps123
  go_wp2_with (first|(go_at_call 186;refine(c1 _).mono ?_;rintro e w1 ⟨rfl,hb1⟩)|(go_at_call 42;refine(c2 _).mono ?_;rintro e _ ⟨rfl,rfl⟩))
  rw[HQ.out];exact⟨⟨#[100]⟩,rfl,hE.out.2,by decide,hb1⟩
end
end Go.Proofs.YtkkekopomiehlabGreatDoor
