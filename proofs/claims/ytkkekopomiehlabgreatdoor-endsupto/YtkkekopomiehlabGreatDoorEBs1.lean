import Derived.Test.YtkkekopomiehlabGreatDoorETw2
set_option linter.unusedVariables false
set_option linter.unusedSimpArgs false
set_option maxHeartbeats 40000000
open List renaming getElem?_eq_getElem->xe,take_of_length_le->xf,getD_eq_getElem?_getD->xm,mem_of_getElem?->xp,length_nil->xu,range->xv
open Bool renaming true_and->xg,eq_false_iff->xh,and_eq_true->xo
open Nat renaming zero_le->xj,le_refl->xq
open Go.RowKit
set_option maxRecDepth 4000
namespace Go.Proofs.YtkkekopomiehlabGreatDoor
theorem zr9 {f:zac}:(tckP (begP f [])).ms=[]:=by
 show (if actB (begP f []).c (0+1) then za8 [] (actM (begP f []).c (0+1)) else [])=[];have:actB (begP f []).c (0+1)=false:=rfl;rw[this];rfl
theorem zsa {f:zac}{m:Int×Int}{ms:List (Int×Int)}(h:Sfe f (m::ms)):(tckP (begP f (m::ms))).ms=[⟨1,1,m.1,0,m.2⟩]:=by
 obtain⟨hi,he⟩:=zjm h (Wrt f);obtain⟨C,hC⟩:∃ C,C=(begP f (m::ms)).c:=⟨_,rfl⟩;have hst:C.st=1:=by rw[hC];rfl
 have hwk:C.wk=false:=by rw[hC];rfl
 have hun:C.un=0:=by rw[hC];rfl
 have hpa:C.pa=false:=by rw[hC];rfl
 have hpos:C.pos=0:=by rw[hC];rfl
 have hnu:C.nu=0:=by rw[hC];rfl
 have hsh:=hi.sh;rw[<- hC]at hsh;have hov:zaj C=false:=by unfold zaj;rw[hst];rfl
 have hA:actA C 1=begC C:=by unfold actA;rw[if_pos ⟨hwk,by omega⟩]
 have hcb:=zf1 hsh hov;have hB:actB C 1=true:=by
  unfold actB;rw[hA,hpa,hov,hcb];rfl
 have ht0:C.ts[0]?=some (tskS (lstN (lst0 f.vs) ((m::ms).take 0)) m):=by rw[hC];exact zsh (j:=0) rfl
 have hcur:curT (begC C)=tskS (lst0 f.vs) m:=by
  have hn:numC (begC C)=0:=by unfold numC begC;simp only;rw[hst,hpos];rfl
  have hlen:=(List.getElem?_eq_some_iff.1 ht0).1;unfold curT;rw[hn];have e1:(begC C).ts=C.ts:=rfl;have e2:(begC C).st=C.st:=rfl;rw[e1,e2,hst,if_pos (by unfold numB;simp;omega),if_neg (by decide),xm,show (0:Int).toNat=0 from rfl,ht0];rfl
 have hfr:frst false false false (curT (begC C)).z=0:=by
  unfold cmdB at hcb;have hcb:=of_decide_eq_true hcb;have e:frst (begC C).a0 (begC C).a1 (begC C).a2 (curT (begC C)).z=frst false false false (curT (begC C)).z:=rfl;rw[e]at hcb;unfold frst at hcb ⊢;split
  ·rfl
  ·rename_i q;have q2:¬ 0<(curT (begC C)).z:=fun h=>q ⟨h,rfl⟩;rw[if_neg q,if_neg (fun h=>by have:=h.1;omega),if_neg (fun h=>by have:=h.1;omega)]at hcb;omega
 have hm0:∃ q:TskD,(lst0 f.vs).getD m.1.toNat tsk0=q/\q.s=m.1:=by
  have hmv:=(zio h).2.2.2.2.2 m (by simp);obtain⟨i,hi1,hi2⟩:=zgp hmv;have hv:f.vs[i]?=some f.vs[i]:=xe hi2;refine⟨_,rfl,?_⟩;rw[hi1,Int.toNat_natCast,xm,zkp hv];rfl
 obtain⟨q,hq1,hq2⟩:=hm0;show (if actB (begP f (m::ms)).c (0+1) then za8 [] (actM (begP f (m::ms)).c (0+1)) else [])=_;rw[<- hC,show (0:Int)+1=1 from rfl,hB];have hM:actM C 1=⟨1,1,m.1,0,m.2⟩:=by
  unfold actM;rw[hA,hpa,hov,show (begC C).wk=true from rfl];simp only[Bool.or_self,Bool.false_eq_true,if_false,if_true];unfold cmdM;rw[hcb];have e:frst (begC C).a0 (begC C).a1 (begC C).a2 (curT (begC C)).z=frst false false false (curT (begC C)).z:=rfl;rw[if_pos rfl,e,hfr,hcur];unfold tskS;rw[hq1,hq2];have:(begC C).nu=0:=hnu;rw[this];rfl
 rw[hM];rfl
theorem zmy {w1 w2 w3:World}{f:zac}{ms:List (Int×Int)}{r:Nat}{L:Nat->Nat}{B:Nat}(hB:B<=w1.heap.size)(hb:Below w1.heap.size w1 w2)(hlow:∀ k,k<w1.heap.size->L k=0)(ht:Turn w2 L r w3 (tckP (begP f ms))):Below B w1 w3/\∃ L',RunE w3 L' r (tckP (begP f ms)):=by
 obtain⟨L',h1,h2,h3⟩:=ht;refine⟨(hb.mono hB).trans (h3.bel (Nat.le_trans hB hb.size) (fun k hk q=>q (hlow k (by omega)))),L',h1⟩
theorem yab8 (f:zac)(sa ta va:Option Addr)(sl sc tl tc vl vc:Nat)(ms:List (Int×Int))(ma:Option Addr)(mc:Nat)(w:World)(hf:FleetAt w sa sl sc ta tl tc va vl vc f)(hm:MvsAt w ma ms)(hS:Sfe f ms) :
  Calls Tryz.prog 52 #[.agg #[.slice sa sl sc,.slice ta tl tc,.slice va vl vc],.slice ma ms.length mc] w fun e W=>e=.returned (.bool true)/\Below w.heap.size w W:=by
 obtain⟨hbi,hbe⟩:=zjm hS (Wrt f);have hl:=hS.l200;have hto:=zlu hbi (zmx hS) (by omega);have c1:=fun (W:World) (h:Below w.heap.size w W)=>ziz f sa ta va sl sc tl tc vl vc W (hf.keep h);have c2:=fun (sa' ta' va':Option Addr) (sc' tc' vc':Nat) (W:World) (h:Below w.heap.size w W) (hF:FleetAt W sa' f.ss.length sc' ta' f.ts.length tc' va' f.vs.length vc' f)=>zmg f sa' ta' va' f.ss.length sc' f.ts.length tc' f.vs.length vc' ms ma mc W hF (hm.keep h) hS;have c3:=fun (W:World) (L:Nat->Nat) (r:Nat) (h:RunE W L r (begP f ms))=>zk9 hto h;have hlen:(tckP (begP f ms)).ms.length<=40:=by
  cases ms with
  |nil=>rw[zr9];simp
  |cons m l=>rw[zsa hS];simp
 have c4:=fun (W:World) (L:Nat->Nat) (r:Nat) (h:RunE W L r (tckP (begP f ms)))=>zgv hlen h;have HM:=zaa hm;have F0:=box3 w (.slice sa sl sc) (.slice ta tl tc) (.slice va vl vc) 26;have B0:=zaa (bel1 w (.cells #[.slice sa sl sc,.slice ta tl tc,.slice va vl vc] 26));cases ms with
 |nil =>
  rw[zr9]at c4;clear hS hbi hbe hto hlen hm hf;have hz:w.heap.size<=w.heap.size+1:=by omega
  simp only[xu]at c2 c4 ⊢
  go_enter Tryz.func52,Tryz.ntmps52
  go_wp2_with (first
   |(go_at_call 21;refine(c1 _ B0.out).mono ?_;rintro e w1 hT;obtain⟨sa',sc',ta',tc',va',vc',rfl,hF,hb1⟩:=hT;have HF1:=zaa hF;have B1:=zaa (thn3 B0.out hb1);clear hF)
   |(go_at_call 27;refine(c2 sa' ta' va' sc' tc' vc' _ B1.out HF1.out).mono ?_;rintro e w2 hP;obtain⟨r,L,rfl,hR,hlow,hb2⟩:=hP;have HR:=zaa hR;have HLO:=zaa hlow;clear hR hlow)
   |(go_at_call 55;refine(c3 _ L r HR.out).mono ?_;rintro e w3 ⟨rfl,ht⟩;obtain⟨hb3,L',hR3⟩:=zmy (xq _) hb2 HLO.out ht;have HR3:=zaa hR3;have B3:=zaa (thn3 B1.out hb3);clear hR3 ht)
   |(go_at_call 53;refine(c4 _ L' r HR3.out).mono ?_;rintro e w4 ⟨v,rfl,ho,hb4⟩;obtain⟨ad,cp,rfl,_⟩:=zdq ho;have B4:=zaa (thn3 B3.out hb4);clear ho))
  go_ret;exact⟨rfl,B4.out⟩
 |cons m l =>
  rw[zsa hS]at c4;obtain⟨b,o,hma,d0,d1⟩:=hm 0 m rfl;subst hma;simp only[Nat.zero_mul,Nat.add_zero]at d0 d1;obtain⟨mx,my⟩:=m;simp only at d0 d1;clear hS hbi hbe hto hlen hm hf;obtain⟨n,hn⟩:∃ n,n=((mx,my)::l).length:=⟨_,rfl⟩;have hn0:0<n:=by rw[hn];simp
  have hn1:(0:Int)<(n:Int):=by omega
  rw[<- hn]at c2 ⊢;clear hn;have e1:(mx == mx)=true:=by simp
  have e2:decide (mx=mx)=true:=by simp
  have e3:(my == my)=true:=by simp
  have e4:decide (my=my)=true:=by simp
  have lb:=zag d0
  go_enter Tryz.func52,Tryz.ntmps52
  go_wp2_with (first
   |(go_at_call 21;refine(c1 _ B0.out).mono ?_;rintro e w1 hT;obtain⟨sa',sc',ta',tc',va',vc',rfl,hF,hb1⟩:=hT;have HF1:=zaa hF;have B1:=zaa (thn3 B0.out hb1);clear hF)
   |(go_at_call 27;refine(c2 sa' ta' va' sc' tc' vc' _ B1.out HF1.out).mono ?_;rintro e w2 hP;obtain⟨r,L,rfl,hR,hlow,hb2⟩:=hP;have HR:=zaa hR;have HLO:=zaa hlow;clear hR hlow)
   |(go_at_call 55;refine(c3 _ L r HR.out).mono ?_;rintro e w3 ⟨rfl,ht⟩;obtain⟨hb3,L',hR3⟩:=zmy (xq _) hb2 HLO.out ht;have HR3:=zaa hR3;have B3:=zaa (thn3 B1.out hb3);clear hR3 ht)
   |(go_at_call 53;refine(c4 _ L' r HR3.out).mono ?_;rintro e w4 ⟨v,rfl,ho,hb4⟩;obtain⟨ad,cp,rfl,_,hcs⟩:=zbb ho (by omega);obtain⟨gb,rfl,_,k0⟩:=hcs 0 _ rfl;obtain⟨gb1,q1,_,k1⟩:=hcs 1 _ rfl;obtain⟨gb2,q2,_,k2⟩:=hcs 2 _ rfl;obtain⟨gb3,q3,_,k3⟩:=hcs 3 _ rfl;obtain⟨gb4,q4,_,k4⟩:=hcs 4 _ rfl;cases q1;cases q2;cases q3;cases q4;have B4:=zaa (thn3 B3.out hb4);have d40:=zab B4.out d0;have d41:=zab B4.out d1;have lb4:=zag d40;have lg4:=zag k0;clear ho hcs))
  go_quiet (fail)
  go_wp2_with fail
  go_ret;exact⟨rfl,below_drewN (thn3 B4.out (bel1 _ _)) _⟩
def bok0 (f:zac)(ms:List (Int×Int))(tale:Bool):zav:=⟨f,ms,tale,begP f ms,0,[],false⟩
def zi9 (f:zac)(ms:List (Int×Int))(tale:Bool)(w:World)(e:Ending)(W:World):Prop:=∃ gb r L w0,e=.returned (.pointer (some ⟨gb,0,none⟩))/\BookE w0 W L gb r (bok0 f ms tale)/\w0.heap.size<=gb/\Below w.heap.size w w0
theorem zm0 {w0 w5 W:World}{L:Nat->Nat}{r:Nat}{f:zac}{ms:List (Int×Int)}{tale:Bool}{sa ta va ma:Option Addr}{sl sc tl tc vl vc mc:Nat}(hlow:∀ k,k<w0.heap.size->L k=0)(hb:Below w0.heap.size w0 w5)(hR:RunE w5 L r (begP f ms))(hF:FleetAt w0 sa sl sc ta tl tc va vl vc f)(hM:MvsAt w0 ma ms)(hbW:Below w5.heap.size w5 W)
  (hrow:RowIs W w5.heap.size 70 [.slice sa sl sc,.slice ta tl tc,.slice va vl vc,.slice ma ms.length mc,.bool tale,.pointer (some ⟨r,0,none⟩),.int .i64 0,.slice none 0 0,.bool false]):BookE w0 W L w5.heap.size r (bok0 f ms tale):=by
 have hfr:L w5.heap.size=0:=by
  obtain⟨gt,tc',m,gv,vc',t,s,sv,tv,h⟩:=hR;exact h.fr _ (xq _)
 exact⟨sa,ta,va,ma,sl,sc,tl,tc,vl,vc,mc,.slice none 0 0,hrow,hfr,hR.keep hbW,hlow,hb.trans (hbW.mono hb.size),hF,hM,World.ownsRow_nil _ _ _ _,fun k hk=>by simp[Value.ownBlock]at hk⟩
theorem zut {f:zac}{ms:List (Int×Int)}{tale:Bool}:∀ (s:Nat) v,(bok0 f ms tale).f.vs[s]?=some v->∀ i:Nat,(i:Int)<v.size->hasB (bok0 f ms tale).P.vs s i=true/\(insG (bok0 f ms tale).P.vs s i).r=zfv (bok0 f ms tale) false s v:=fun s v hv i hi=>by
 refine⟨zhn.2 ⟨s,v,rfl,hv,by omega,hi⟩,?_⟩;have hv:f.vs[s]?=some v:=hv;show (insG (begP f ms).vs s i).r=_;rw[zjl hv (by omega) hi];rfl
theorem zmz (f:zac)(sa ta va:Option Addr)(sl sc tl tc vl vc:Nat)(ms:List (Int×Int))(ma:Option Addr)(mc:Nat)(tale:Bool)(w:World)(hf:FleetAt w sa sl sc ta tl tc va vl vc f)(hm:MvsAt w ma ms)(hS:Sfe f ms) :
  Calls Tryz.prog 22 #[.agg #[.slice sa sl sc,.slice ta tl tc,.slice va vl vc],.slice ma ms.length mc,.bool tale] w fun e W=>zi9 f ms tale w e W:=by
 have hl:=hS.l200;obtain⟨v3,_,_,_,hsz,_⟩:=zio hS;have c0:=fun (W:World) (h:Below w.heap.size w W)=>yab8 f sa ta va sl sc tl tc vl vc ms ma mc W (hf.keep h) (hm.keep h) hS;have c1:=fun (W:World) (h:Below w.heap.size w W)=>ziz f sa ta va sl sc tl tc vl vc W (hf.keep h);have c2:=fun (sa' ta' va':Option Addr) (sc' tc' vc':Nat) (W:World) (h:Below w.heap.size w W) (hF:FleetAt W sa' f.ss.length sc' ta' f.ts.length tc' va' f.vs.length vc' f)=>zmg f sa' ta' va' f.ss.length sc' f.ts.length tc' f.vs.length vc' ms ma mc W hF (hm.keep h) hS;have c3:=fun (W:World) (L:Nat->Nat) (r:Nat) (h:RunE W L r (begP f ms))=>zje h;have c4:=fun (W:World) (L:Nat->Nat) (r:Nat) (h:RunE W L r (begP f ms))=>zgv (P:=begP f ms) (by show 0<=40;omega) h;have c5:=fun (w0 W:World) (L:Nat->Nat) (gb r:Nat) (h:BookE w0 W L gb r (bok0 f ms tale))=>zm1 (b:=bok0 f ms tale) false (by show f.vs.length<=2000000;omega) (by show ms.length<=2000000;omega) (fun v hv=>by have:=hsz v hv;omega) zut h;have eP:(begP f ms).c.st=(if ms.length=0 then 3 else 1)/\(begP f ms).c.pos=0/\(begP f ms).ti=0/\(begP f ms).c.nu=0/\(begP f ms).c.wk=false/\(begP f ms).c.pa=false/\(begP f ms).ms=[]:=⟨rfl,rfl,rfl,rfl,rfl,rfl,rfl⟩;obtain⟨q1,q2,q3,q4,q5,q6,q7⟩:=eP;simp only[q1,q2,q3,q4,q5,q6]at c3;simp only[q7,xu,List.flatMap_nil]at c4;have HF:=zaa hf;have HM:=zaa hm;have F0:=box3 w (.slice sa sl sc) (.slice ta tl tc) (.slice va vl vc) 26;have B0:=zaa (bel1 w (.cells #[.slice sa sl sc,.slice ta tl tc,.slice va vl vc] 26));clear hf hm hS hsz v3 q1 q2 q3 q4 q5 q6 q7;obtain⟨n,hn⟩:∃ n,n=ms.length:=⟨_,rfl⟩;have HN:=zaa hn;rw[<- hn]at c0 c2 c3 ⊢;clear hn hl;have hn0 := znn n;by_cases hz:n=0
 ·subst hz;rw[if_pos rfl]at c3
  go_enter Tryz.func22,Tryz.ntmps22
  go_wp2_with (first
   |(go_at_call 52;refine(c0 _ B0.out).mono ?_;rintro e wa ⟨rfl,hba⟩;have BA:=zaa (thn3 B0.out hba);have fa:=zaq hba F0)
   |(go_at_call 21;refine(c1 _ BA.out).mono ?_;rintro e w1 hT;obtain⟨sa',sc',ta',tc',va',vc',rfl,hF,hb1⟩:=hT;have HF1:=zaa hF;have B1:=zaa (thn3 BA.out hb1);have f1:=zaq hb1 fa;clear hF)
   |(go_at_call 27;refine(c2 sa' ta' va' sc' tc' vc' _ B1.out HF1.out).mono ?_;rintro e w2 hP;obtain⟨r,L,rfl,hR,hlow,hb2⟩:=hP;have HR:=zaa hR;have HLO:=zaa hlow;have f2:=zaq hb2 f1;clear hR hlow)
   |(go_at_call 36;refine(c3 _ L r HR.out).mono ?_;rintro e w3 ⟨rfl,hb3⟩;have B23:=zaa (thn3 hb3 (bel1 w3 (.cells #[.int .i64 3,.int .i64 0,.int .i64 0,.int .i64 0,.bool false,.bool false] 87)));have f3:=zaq B23.out f2;have S3:=zaa (show RowIs (w3.alloc (.cells #[.int .i64 3,.int .i64 0,.int .i64 0,.int .i64 0,.bool false,.bool false] 87)) w3.heap.size 87 [.int .i64 3,.int .i64 0,.int .i64 0,.int .i64 0,.bool false,.bool false]from zal _ _))
   |(go_at_call 53;refine(c4 _ L r (HR.out.keep B23.out)).mono ?_;rintro e w4 ⟨v,rfl,ho,hb4⟩;obtain⟨ad,cp,rfl,_⟩:=zdq ho;have B24:=zaa (thn3 B23.out hb4);have f4:=zaq hb4 f3;have S4:=zaa (S3.out.keep hb4);have s0:=S4.out.cell (j:=0) rfl;have s1:=S4.out.cell (j:=1) rfl;have s2:=S4.out.cell (j:=2) rfl;have s3:=S4.out.cell (j:=3) rfl;have s4:=S4.out.cell (j:=4) rfl;have s5:=S4.out.cell (j:=5) rfl;have E4:=zaa (zm0 (tale:=tale) (mc:=mc) HLO.out (thn3 hb2 B24.out) (HR.out.keep B24.out) (HF.out.keep B1.out) (HM.out.keep B1.out) (bel1 w4 _) (by rw[<- HN.out];exact zal w4 _));clear ho)
   |(go_at_call 54;refine(c5 _ _ L _ r E4.out).mono ?_;rintro e w5 ⟨rfl,hb5⟩))
  go_ret;exact⟨_,r,L,_,rfl,E4.out.keep hb5,by have:=(thn3 hb2 B24.out).size;omega,B1.out⟩
 ·rw[if_neg hz]at c3;have hn1:(0:Int)<(n:Int):=by omega
  go_enter Tryz.func22,Tryz.ntmps22
  go_wp2_with (first
   |(go_at_call 52;refine(c0 _ B0.out).mono ?_;rintro e wa ⟨rfl,hba⟩;have BA:=zaa (thn3 B0.out hba);have fa:=zaq hba F0)
   |(go_at_call 21;refine(c1 _ BA.out).mono ?_;rintro e w1 hT;obtain⟨sa',sc',ta',tc',va',vc',rfl,hF,hb1⟩:=hT;have HF1:=zaa hF;have B1:=zaa (thn3 BA.out hb1);have f1:=zaq hb1 fa;clear hF)
   |(go_at_call 27;refine(c2 sa' ta' va' sc' tc' vc' _ B1.out HF1.out).mono ?_;rintro e w2 hP;obtain⟨r,L,rfl,hR,hlow,hb2⟩:=hP;have HR:=zaa hR;have HLO:=zaa hlow;have f2:=zaq hb2 f1;clear hR hlow)
   |(go_at_call 36;refine(c3 _ L r HR.out).mono ?_;rintro e w3 ⟨rfl,hb3⟩;have B23:=zaa (thn3 hb3 (bel1 w3 (.cells #[.int .i64 1,.int .i64 0,.int .i64 0,.int .i64 0,.bool false,.bool false] 87)));have f3:=zaq B23.out f2;have S3:=zaa (show RowIs (w3.alloc (.cells #[.int .i64 1,.int .i64 0,.int .i64 0,.int .i64 0,.bool false,.bool false] 87)) w3.heap.size 87 [.int .i64 1,.int .i64 0,.int .i64 0,.int .i64 0,.bool false,.bool false]from zal _ _))
   |(go_at_call 53;refine(c4 _ L r (HR.out.keep B23.out)).mono ?_;rintro e w4 ⟨v,rfl,ho,hb4⟩;obtain⟨ad,cp,rfl,_⟩:=zdq ho;have B24:=zaa (thn3 B23.out hb4);have f4:=zaq hb4 f3;have S4:=zaa (S3.out.keep hb4);have s0:=S4.out.cell (j:=0) rfl;have s1:=S4.out.cell (j:=1) rfl;have s2:=S4.out.cell (j:=2) rfl;have s3:=S4.out.cell (j:=3) rfl;have s4:=S4.out.cell (j:=4) rfl;have s5:=S4.out.cell (j:=5) rfl;have E4:=zaa (zm0 (tale:=tale) (mc:=mc) HLO.out (thn3 hb2 B24.out) (HR.out.keep B24.out) (HF.out.keep B1.out) (HM.out.keep B1.out) (bel1 w4 _) (by rw[<- HN.out];exact zal w4 _));clear ho)
   |(go_at_call 54;refine(c5 _ _ L _ r E4.out).mono ?_;rintro e w5 ⟨rfl,hb5⟩))
  go_ret;exact⟨_,r,L,_,rfl,E4.out.keep hb5,by have:=(thn3 hb2 B24.out).size;omega,B1.out⟩
theorem zz7 {ns nt:Nat}{p:PinD}(h:p.t<0\/(nt:Int)<=p.t\/p.w < -1\/(ns:Int)<=p.w\/p.r < -1\/(ns:Int)<=p.r):pinB ns nt p=false:=by
 unfold pinB numB;rw[xh];intro hc;simp at hc;omega
theorem zz8 {ns nt:Nat}{p:PinD}(h1:0<=p.t)(h2:p.t<nt)(h3:-1<=p.w)(h4:p.w<ns)(h5:-1<=p.r)(h6:p.r<ns):pinB ns nt p=true:=by
 unfold pinB numB;simp;omega
theorem yadg {ps:List PinD}{j:Nat}{q:PinD}{x:Int}(hq:ps[j]?=some q):(ps.take (j+1)).any (fun q=>q.t == x)=((ps.take j).any (fun q=>q.t == x)||(q.t == x)):=by
 rw[List.take_add_one,hq,List.any_append];simp
theorem yaab (ns nt:Nat)(ps:List PinD)(hns:ns<=2000000)(hnt:nt<=2000000)(w:World)(a:Option Addr)(cap:Nat)(hl:ps.length<=2000000)(hp:PinsAt w a ps) :
  Calls Tryz.prog 132 #[.slice a ps.length cap,.int .i64 nt,.int .i64 ns] w fun e w'=>e=.returned (.bool (za7 ns nt ps))/\Below w.heap.size w w':=by
 obtain⟨R,hR⟩:∃ R,R=za7 ns nt ps:=⟨_,rfl⟩;rw[<- hR];by_cases h4:ps.length<=4
 ·have HR:Hid (R=(xv ps.length).all (pinK ns nt ps)):=by show _=_;rw[hR];unfold za7;rw[decide_eq_true h4];rfl
  clear hR
  go_enter Tryz.func132,Tryz.ntmps132
  go_wp2_with fail
  go_loopw [7] (fun vi wr=>∃ i:Nat,i<=ps.length/\vi=.int .i64 i/\Hid ((xv i).all (pinK ns nt ps)=true)/\Below w.heap.size w wr) (fun i _=>ps.length-(intOf i).toNat)
  case atStart=>exact⟨0,xj _,rfl,(by show _=_;rfl),Below.refl _ _⟩
  case round =>
   obtain⟨i,hi,rfl,hn,hb⟩:=hrel
   rename World=>w5
   have hx0 := znn i;by_cases hlt:i<ps.length
   ·obtain⟨p,hpi⟩:∃ p,ps[i]?=some p:=⟨ps[i],xe hlt⟩;obtain⟨b,o,rfl,c0,c1,c2⟩:=hp i p hpi;have c0:=zab hb c0;have c1:=zab hb c1;have c2:=zab hb c2;have hbl:=zag c0;have hx1:(i:Int)<(ps.length:Int):=by omega
    have hK:pinK ns nt ps i=(pinB ns nt p&&!((ps.take i).any fun q=>q.t == p.t)):=by unfold pinK;rw[hpi]
    have hno:pinK ns nt ps i=false->R=false:=fun h=>by rw[HR.out];exact zmt hlt h
    have HYES:=(zaa (fun (h:pinK ns nt ps i=true)=>show (xv (i+1)).all (pinK ns nt ps)=true by rw[zms,hn.out,h];rfl));have e0:=box3 w5 (.int .i64 p.t) (.int .i64 p.w) (.int .i64 p.r) 165;have hB5:=thn3 hb (bel1 w5 (.cells #[.int .i64 p.t,.int .i64 p.w,.int .i64 p.r] 165));by_cases hbad:p.t<0\/(nt:Int)<=p.t\/p.w < -1\/(ns:Int)<=p.w\/p.r < -1\/(ns:Int)<=p.r
    ·have hR1:R=false:=hno (by rw[hK,zz7 hbad];rfl);clear hK hpi hn HR hp hno HYES;subst hR1;obtain⟨x,y,z⟩:=p;simp only at c0 c1 c2 hbad e0 hB5
     go_wp2_with fail
     all_goals first|(go_ret;exact⟨rfl,hB5⟩)|(exfalso;omega)
    ·have hP:pinB ns nt p=true:=zz8 (by omega) (by omega) (by omega) (by omega) (by omega) (by omega);rw[hP,xg]at hK;obtain⟨g1,g2,g3,g4,g5,g6⟩:0<=p.t/\p.t<(nt:Int)/\-1<=p.w/\p.w<(ns:Int)/\-1<=p.r/\p.r<(ns:Int):=by omega
     have HK:= zaa hK;have HNO:= zaa hno;have HP:= zaa hp;clear hK hn hno hP hbad hpi;obtain⟨x,y,z⟩:=p;simp only at c0 c1 c2 e0 hB5 HK g1 g2 g3 g4 g5 g6
     go_wp2_with fail
     all_goals first|(exfalso;omega)|skip
     go_loopw [9] (fun vj wr=>∃ j:Nat,j<=i/\vj=.int .i64 j/\Hid ((ps.take j).any (fun q=>q.t == x)=false)/\Below (w5.alloc (.cells #[.int .i64 x,.int .i64 y,.int .i64 z] 165)).heap.size (w5.alloc (.cells #[.int .i64 x,.int .i64 y,.int .i64 z] 165)) wr) (fun j _=>i-(intOf j).toNat)
     case atStart=>exact⟨0,xj _,rfl,rfl,Below.refl _ _⟩
     case round =>
      obtain⟨j,hj,rfl,hany,hb6⟩:=hrel
      rename World=>w6
      obtain⟨e60,e61,e62⟩:=zaq hb6 e0;have l6:=zag e60;have hB6:=thn3 hB5 hb6;have hy0 := znn j;by_cases hlj:j<i
      ·obtain⟨q,hq⟩:∃ q,ps[j]?=some q:=⟨ps[j]'(by omega),xe _⟩;obtain⟨b',o',hbb,q0,_,_⟩:=HP.out j q hq;cases hbb;have q0:=zab hB6 q0;have lq:=zag q0;have hy1:(j:Int)<(ps.length:Int):=by omega
       have hy2:(j:Int)<(i:Int):=by omega
       have hta:=yadg (x:=x) hq;by_cases hqx:q.t=x
       ·have hR1:R=false:=HNO.out (by
         rw[HK.out];have:(ps.take i).any (fun q=>q.t == x)=true:=List.any_eq_true.2 ⟨q,xp (by rw[List.getElem?_take,if_pos hlj];exact hq),by simp[hqx]⟩;rw[this];rfl)
        have d1:(q.t == x)=true:=by simp[hqx]
        have d2:(q.t != x)=false:=by simp[hqx]
        have d3:decide (q.t=x)=true:=by simp[hqx]
        clear HR HNO HK HYES hqx hta hany hq;subst hR1;generalize q.t=qt at q0 d1 d2 d3
        go_wp2_with fail
        go_quiet (fail)
        go_wp2_with fail
        go_ret;exact⟨rfl,below_drewN hB6 _⟩
       ·have d1:(q.t == x)=false:=by simp[hqx]
        have d2:(q.t != x)=true:=by simp[hqx]
        have d3:decide (q.t=x)=false:=by simp[hqx]
        rw[hany.out,d1]at hta;have HTA:= zaa hta;clear hqx hta hany hq;generalize q.t=qt at q0 d1 d2 d3
        go_wp2_with fail
        go_quiet (fail)
        go_wp2_with fail
        go_roundw
        case rel=>exact⟨j+1,by omega,by go_num,HTA,below_drewN hb6 _⟩
        case measure=>simp[intOf];omega
      ·obtain rfl:i=j:=by omega
       have HY:=(zaa (HYES.out (by rw[HK.out,hany.out];rfl)));clear hany
       go_wp2_with fail
       go_roundw
       case rel=>exact⟨i+1,by omega,by go_num,HY,hB6⟩
       case measure=>simp[intOf];omega
   ·have hR1:R=true:=by rw[HR.out,<- hn.out,show i=ps.length by omega]
    clear HR hn;subst hR1
    go_wp2_with fail
    go_ret;exact⟨rfl,hb⟩
 ·have hR1:R=false:=by rw[hR];unfold za7;rw[decide_eq_false h4];rfl
  clear hR;subst hR1
  go_enter Tryz.func132,Tryz.ntmps132
  go_wp2_with fail
  go_ret;exact⟨rfl,Below.refl _ _⟩
theorem yac5 {ns nt:Nat}{v:SvcD}(h:v.size<1\/3<v.size\/3<(v.rels.length:Int)\/v.now<0\/(v.rels.length:Int)<=v.now\/v.want<0\/(v.rels.length:Int)<=v.want):svcB ns nt v=false:=by
 unfold svcB numB;rw[xh];intro hc;simp only[xo,decide_eq_true_eq]at hc;omega
theorem yac6 {ns nt:Nat}{v:SvcD}(h:¬ (v.size<1\/3<v.size\/3<(v.rels.length:Int)\/v.now<0\/(v.rels.length:Int)<=v.now\/v.want<0\/(v.rels.length:Int)<=v.want)):svcB ns nt v=v.rels.all (za7 ns nt):=by
 unfold svcB numB;rw[decide_eq_true (by omega),decide_eq_true (by omega),decide_eq_true (by omega),decide_eq_true (by omega),decide_eq_true (by omega),decide_eq_true (by omega),decide_eq_true (by omega),decide_eq_true (by omega)];rfl
theorem zye (ns nt:Nat)(v:SvcD)(sa ta va:Option Addr)(sc tc vl vc:Nat)(hns:ns<=2000000)(hnt:nt<=2000000)(w:World)(ra:Option Addr)(rl rc:Nat)(hp:RelSl PinSl w ra rl rc v.rels) :
  Calls Tryz.prog 70 #[.agg #[.slice sa ns sc,.slice ta nt tc,.slice va vl vc],.agg #[.int .i64 v.size,.int .i64 v.now,.int .i64 v.want,.slice ra rl rc]] w fun e w'=>e=.returned (.bool (svcB ns nt v))/\Below w.heap.size w w':=by
 obtain⟨R,hR⟩:∃ R,R=svcB ns nt v:=⟨_,rfl⟩;rw[<- hR];obtain⟨sz,nw,wn,rels⟩:=v;simp only at hp ⊢;obtain⟨rfl,hl,hlc,hc9,hp⟩:=hp;have e0:=new3 (.cells #[.int .i64 sz,.int .i64 nw,.int .i64 wn,.slice ra rels.length rc] 73) (box3 w (.slice sa ns sc) (.slice ta nt tc) (.slice va vl vc) 26);have hbx:Below w.heap.size w ((w.alloc (.cells #[.slice sa ns sc,.slice ta nt tc,.slice va vl vc] 26)).alloc (.cells #[.int .i64 sz,.int .i64 nw,.int .i64 wn,.slice ra rels.length rc] 73)):=thn3 (bel1 _ _) (bel1 _ _);have s0:RowIs ((w.alloc (.cells #[.slice sa ns sc,.slice ta nt tc,.slice va vl vc] 26)).alloc (.cells #[.int .i64 sz,.int .i64 nw,.int .i64 wn,.slice ra rels.length rc] 73)) (w.heap.size+1) 73 [.int .i64 sz,.int .i64 nw,.int .i64 wn,.slice ra rels.length rc]:=by
  have:=heap_alloc_new (w.alloc (.cells #[.slice sa ns sc,.slice ta nt tc,.slice va vl vc] 26)) (.cells #[.int .i64 sz,.int .i64 nw,.int .i64 wn,.slice ra rels.length rc] 73);rw[show (w.alloc (.cells #[.slice sa ns sc,.slice ta nt tc,.slice va vl vc] 26)).heap.size=w.heap.size+1 by simp]at this;exact this
 by_cases hbad:sz<1\/3<sz\/3<(rels.length:Int)\/nw<0\/(rels.length:Int)<=nw\/wn<0\/(rels.length:Int)<=wn
 ·have hR1:R=false:=by rw[hR];exact yac5 hbad
  clear hR hp;subst hR1
  go_enter Tryz.func70,Tryz.ntmps70
  go_wp2_with fail
  all_goals first|(go_ret;exact⟨rfl,hbx⟩)|(exfalso;omega)
 ·have HR:=(zaa (show R=rels.all (za7 ns nt) by rw[hR];exact yac6 hbad));have HP:= zaa hp;obtain⟨g1,g2,g3,g4,g5,g6,g7⟩:1<=sz/\sz<=3/\(rels.length:Int)<=3/\0<=nw/\nw<(rels.length:Int)/\0<=wn/\wn<(rels.length:Int):=by omega
  clear hR hp hbad
  go_enter Tryz.func70,Tryz.ntmps70
  go_wp2_with fail
  all_goals first|(exfalso;omega)|skip
  go_loopw [6] (fun vi wr=>∃ i:Nat,i<=rels.length/\vi=.int .i64 i/\Hid ((rels.take i).all (za7 ns nt)=true)/\Below ((w.alloc (.cells #[.slice sa ns sc,.slice ta nt tc,.slice va vl vc] 26)).alloc (.cells #[.int .i64 sz,.int .i64 nw,.int .i64 wn,.slice ra rels.length rc] 73)).heap.size ((w.alloc (.cells #[.slice sa ns sc,.slice ta nt tc,.slice va vl vc] 26)).alloc (.cells #[.int .i64 sz,.int .i64 nw,.int .i64 wn,.slice ra rels.length rc] 73)) wr) (fun i _=>rels.length-(intOf i).toNat)
  case atStart=>exact⟨0,xj _,rfl,rfl,Below.refl _ _⟩
  case round =>
   obtain⟨i,hi,rfl,hall,hb5⟩:=hrel
   rename World=>w5
   obtain⟨f0,f1,f2⟩:=zaq hb5 e0;have l5:=zag f0;have s3:=(s0.keep hb5).cell (j:=3) rfl;have l6:=zag s3;have hB5:=thn3 hbx hb5;have hx0 := znn i;by_cases hlt:i<rels.length
   ·obtain⟨ps,hps⟩:∃ ps,rels[i]?=some ps:=⟨rels[i],xe hlt⟩;obtain⟨b,o,pa,pl,pc,rfl,c0,hq1,hq2,_,_,hq3⟩:=HP.out i ps hps;subst hq1;have c0:=zab hB5 c0;have lc:=zag c0;have hx1:(i:Int)<(rels.length:Int):=by omega
    have hpin:=fun (W:World) (h:Below w5.heap.size w5 W)=>yaab ns nt ps hns hnt W pa pc hq2 ((hq3.keep hB5).keep h);have hat:=zed (za7 ns nt) hps;have hno:za7 ns nt ps=false->R=false:=fun h=>by rw[HR.out];exact zec hps h
    rw[hall.out,xg]at hat;have HAT:= zaa hat;generalize za7 ns nt ps=x at hpin hno HAT;clear hall hat hps hq3;cases x with
    |false =>
     have hR1:=hno rfl;clear HR hno;subst hR1
     go_wp2_with fail
     go_region_held3 (fun w'=>w'.cell? ⟨w.heap.size+1,3,none⟩=some (.slice (some ⟨b,o,none⟩) rels.length rc)/\w'.cell? ⟨b,o+i,none⟩=some (.slice pa ps.length pc)/\w'.cell? ⟨w.heap.size,1,none⟩=some (.slice ta nt tc)/\w'.cell? ⟨w.heap.size,0,none⟩=some (.slice sa ns sc)) (go_keep) (first|(go_at_call 132;refine(hpin _ (Below.refl _ _).drew).mono ?_;rintro e w6 ⟨rfl,hb6⟩;have k1:=zab hb6 s3;have k2:=zab hb6 c0;have k3:=zab hb6 f1;have k4:=zab hb6 f0))
     go_wp2_with fail
     go_ret;exact⟨rfl,thn3 hB5.drew hb6⟩
    |true =>
     clear hno
     go_wp2_with fail
     go_region_held3 (fun w'=>w'.cell? ⟨w.heap.size+1,3,none⟩=some (.slice (some ⟨b,o,none⟩) rels.length rc)/\w'.cell? ⟨b,o+i,none⟩=some (.slice pa ps.length pc)/\w'.cell? ⟨w.heap.size,1,none⟩=some (.slice ta nt tc)/\w'.cell? ⟨w.heap.size,0,none⟩=some (.slice sa ns sc)) (go_keep) (first|(go_at_call 132;refine(hpin _ (Below.refl _ _).drew).mono ?_;rintro e w6 ⟨rfl,hb6⟩;have k1:=zab hb6 s3;have k2:=zab hb6 c0;have k3:=zab hb6 f1;have k4:=zab hb6 f0))
     go_wp2_with fail
     go_roundw
     case rel=>exact⟨i+1,by omega,by go_num,HAT,thn3 hb5.drew hb6⟩
     case measure=>simp[intOf];omega
   ·have hR1:R=true:=by rw[HR.out,<- hall.out,xf (by omega)]
    clear HR hall;subst hR1
    go_wp2_with fail
    go_ret;exact⟨rfl,hB5⟩
theorem zvf {s:ByteArray}(h:schB s=true):chk false s=0:=by
 unfold schB at h;rw[xo]at h;have:=of_decide_eq_true h.1;unfold chk;rw[if_neg (by omega),if_pos h.2]
theorem zve {s:ByteArray}(h:schB s=false):chk false s≠0:=by
 unfold schB at h;unfold chk;by_cases h1:60<s.size
 ·rw[if_pos h1];decide
 ·rw[decide_eq_true (by omega),xg]at h;rw[if_neg h1,if_neg (by rw[h];simp)];decide
theorem zy8 {f:zac}(h:8<f.ss.length\/4<f.ts.length\/f.vs.length<1\/3<f.vs.length):ordB f=false:=by
 unfold ordB zc1 zc2 zd9;rw[xh];intro hc;simp only[xo,decide_eq_true_eq]at hc;omega
theorem zy9 {f:zac}(h:¬ (8<f.ss.length\/4<f.ts.length\/f.vs.length<1\/3<f.vs.length)):ordB f=(f.ss.all schB&&(f.ts.all topB&&f.vs.all (svcB f.ss.length f.ts.length))):=by
 unfold ordB zc1 zc2 zd9;rw[decide_eq_true (by omega),decide_eq_true (by omega),decide_eq_true (by omega),decide_eq_true (by omega)];simp only[xg,Bool.and_assoc]
theorem yacg (f:zac)(sa ta va:Option Addr)(sl sc tl tc vl vc:Nat)(w:World)(hf:FleetAt w sa sl sc ta tl tc va vl vc f) :
  Calls Tryz.prog 26 #[.agg #[.slice sa sl sc,.slice ta tl tc,.slice va vl vc]] w fun e W=>e=.returned (.bool (ordB f))/\Below w.heap.size w W:=by
 obtain⟨R,hR⟩:∃ R,R=ordB f:=⟨_,rfl⟩;rw[<- hR];have f0:=box3 w (.slice sa sl sc) (.slice ta tl tc) (.slice va vl vc) 26;have hb0:=bel1 w (.cells #[.slice sa sl sc,.slice ta tl tc,.slice va vl vc] 26);have k1:=hf.s1;have k2:=hf.t1;have k3:=hf.v1;subst k1 k2 k3;have l1:=hf.s2;have l2:=hf.t2;have l3:=hf.v2;have HF:= zaa hf;clear hf;by_cases hbad:8<f.ss.length\/4<f.ts.length\/f.vs.length<1\/3<f.vs.length
 ·have hR1:R=false:=by rw[hR];exact zy8 hbad
  have hbad':8<(f.ss.length:Int)\/4<(f.ts.length:Int)\/(f.vs.length:Int)<1\/3<(f.vs.length:Int):=by omega
  clear hR;subst hR1;obtain⟨f00,f01,f02⟩:=f0
  go_enter Tryz.func26,Tryz.ntmps26
  go_wp2_with fail
  all_goals first|(go_ret;exact⟨rfl,hb0⟩)|(exfalso;omega)
 ·have HR:=(zaa (show R=(f.ss.all schB&&(f.ts.all topB&&f.vs.all (svcB f.ss.length f.ts.length))) by rw[hR];exact zy9 hbad));obtain⟨g1,g2,g3,g4⟩:(f.ss.length:Int)<=8/\(f.ts.length:Int)<=4/\1<=(f.vs.length:Int)/\(f.vs.length:Int)<=3:=by omega
  clear hR hbad;obtain⟨f00,f01,f02⟩:=f0
  go_enter Tryz.func26,Tryz.ntmps26
  go_wp2_with fail
  all_goals first|(exfalso;omega)|skip
  have f0:=zf3 f00 (zf3 f01 f02)
  go_loopw [3] (fun vi wr=>∃ i:Nat,i<=f.ss.length/\vi=.int .i64 i/\Hid ((f.ss.take i).all schB=true)/\Below (w.alloc (.cells #[.slice sa f.ss.length sc,.slice ta f.ts.length tc,.slice va f.vs.length vc] 26)).heap.size (w.alloc (.cells #[.slice sa f.ss.length sc,.slice ta f.ts.length tc,.slice va f.vs.length vc] 26)) wr) (fun i _=>f.ss.length-(intOf i).toNat)
  case atStart=>exact⟨0,xj _,rfl,rfl,Below.refl _ _⟩
  case round =>
   obtain⟨i,hi,rfl,hall,hb5⟩:=hrel
   rename World=>w5
   obtain⟨q0,q1,q2⟩:=zaq hb5 f0;have l5:=zag q0;have hB5:=thn3 hb0 hb5;have hx0 := znn i;by_cases hlt:i<f.ss.length
   ·obtain⟨s,hs⟩:∃ s,f.ss[i]?=some s:=⟨f.ss[i],xe hlt⟩;obtain⟨b,o,rfl,c0⟩:=HF.out.s4 i s hs;have c0:=zab hB5 c0;have lc:=zag c0;have hx1:(i:Int)<(f.ss.length:Int):=by omega
    have hck:=fun W=>zte s (HF.out.s3 s (xp hs)) W;have hat:=zed schB hs;rw[hall.out,xg]at hat;cases hsb:schB s with
    |false =>
     have hR1:R=false:=by rw[HR.out,zec hs hsb];rfl
     have hne:=zve hsb;generalize chk false s=x at hck hne;have d1:(x == 0)=false:=by simp[hne]
     have d2:(x != 0)=true:=by simp[hne]
     have d3:decide (x=0)=false:=by simp[hne]
     clear HR hall hat hsb hs;subst hR1
     go_wp2_with (go_at_call 69;refine(hck _).mono ?_;rintro e w6 ⟨rfl,hb6⟩)
     go_ret;exact⟨rfl,thn3 hB5 hb6⟩
    |true =>
     rw[zvf hsb]at hck;have HAT:=(zaa (hat.trans hsb));clear hall hat hsb hs
     go_wp2_with (go_at_call 69;refine(hck _).mono ?_;rintro e w6 ⟨rfl,hb6⟩)
     go_roundw
     case rel=>exact⟨i+1,by omega,by go_num,HAT,thn3 hb5 hb6⟩
     case measure=>simp[intOf];omega
   ·have hss:f.ss.all schB=true:=by rw[<- hall.out,xf (by omega)]
    have HR2:=(zaa (show R=(f.ts.all topB&&f.vs.all (svcB f.ss.length f.ts.length)) by rw[HR.out,hss];rfl));clear hall hss HR
    go_wp2_with fail
    go_loopw [5] (fun vi wr=>∃ i:Nat,i<=f.ts.length/\vi=.int .i64 i/\Hid ((f.ts.take i).all topB=true)/\Below (w.alloc (.cells #[.slice sa f.ss.length sc,.slice ta f.ts.length tc,.slice va f.vs.length vc] 26)).heap.size (w.alloc (.cells #[.slice sa f.ss.length sc,.slice ta f.ts.length tc,.slice va f.vs.length vc] 26)) wr) (fun i _=>f.ts.length-(intOf i).toNat)
    case atStart=>exact⟨0,xj _,rfl,rfl,hb5⟩
    case round =>
     clear hb5 hB5 q0 q1 q2 l5;obtain⟨i,hi,rfl,hall,hb5⟩:=hrel
     rename World=>w6
     obtain⟨q0,q1,q2⟩:=zaq hb5 f0;have l5:=zag q0;have hB5:=thn3 hb0 hb5;have hx0 := znn i;by_cases hlt:i<f.ts.length
     ·obtain⟨x,hs⟩:∃ s,f.ts[i]?=some s:=⟨f.ts[i],xe hlt⟩;obtain⟨b,o,rfl,c0⟩:=HF.out.t3 i x hs;have c0:=zab hB5 c0;have lc:=zag c0;have hx1:(i:Int)<(f.ts.length:Int):=by omega
      have hat:=zed topB hs;rw[hall.out,xg]at hat;by_cases hsb:0<=x/\x<=6
      ·obtain⟨x0,x6⟩:=hsb;have HAT:=(zaa (hat.trans (show topB x=true by unfold topB;rw[decide_eq_true x0,decide_eq_true x6];rfl)));clear hall hat hs
       go_wp2_with fail
       all_goals first|(exfalso;omega)|skip
       go_roundw
       case rel=>exact⟨i+1,by omega,by go_num,HAT,hb5⟩
       case measure=>simp[intOf];omega
      ·have hR1:R=false:=by
        rw[HR2.out,zec hs (show topB x=false by unfold topB;rw[xh];intro hc;simp at hc;omega)];rfl
       clear HR2 hall hat hs;subst hR1
       go_wp2_with fail
       all_goals first|(go_ret;exact⟨rfl,hB5⟩)|(exfalso;omega)
     ·have hss:f.ts.all topB=true:=by rw[<- hall.out,xf (by omega)]
      have HR:=(zaa (show R=f.vs.all (svcB f.ss.length f.ts.length) by rw[HR2.out,hss];rfl));clear hall hss HR2
      go_wp2_with fail
      go_loopw [6] (fun vi wr=>∃ i:Nat,i<=f.vs.length/\vi=.int .i64 i/\Hid ((f.vs.take i).all (svcB f.ss.length f.ts.length)=true)/\Below (w.alloc (.cells #[.slice sa f.ss.length sc,.slice ta f.ts.length tc,.slice va f.vs.length vc] 26)).heap.size (w.alloc (.cells #[.slice sa f.ss.length sc,.slice ta f.ts.length tc,.slice va f.vs.length vc] 26)) wr) (fun i _=>f.vs.length-(intOf i).toNat)
      case atStart=>exact⟨0,xj _,rfl,rfl,hb5⟩
      case round =>
       clear hb5 hB5 q0 q1 q2 l5;obtain⟨i,hi,rfl,hall,hb5⟩:=hrel
       rename World=>w7
       obtain⟨q0,q1,q2⟩:=zaq hb5 f0;have l5:=zag q0;have hB5:=thn3 hb0 hb5;have hx0 := znn i;by_cases hlt:i<f.vs.length
       ·obtain⟨v,hs⟩:∃ s,f.vs[i]?=some s:=⟨f.vs[i],xe hlt⟩;obtain⟨b,o,ra,rl,rc,rfl,c0,c1,c2,c3,hrs⟩:=HF.out.v3 i v hs;have hrs:=RelSl.keepP hB5 hrs;have c0:=zab hB5 c0;have c1:=zab hB5 c1;have c2:=zab hB5 c2;have c3:=zab hB5 c3;have lc:=zag c0;have hx1:(i:Int)<(f.vs.length:Int):=by omega
        have hmn:=fun (W:World) (h:Below w7.heap.size w7 W)=>zye f.ss.length f.ts.length v sa ta (some ⟨b,o,none⟩) sc tc f.vs.length vc l1 l2 W ra rl rc (RelSl.keepP h hrs);have hat:=zed (svcB f.ss.length f.ts.length) hs;rw[hall.out,xg]at hat;have HAT:= zaa hat;have hno:svcB f.ss.length f.ts.length v=false->R=false:=fun h=>by rw[HR.out];exact zec hs h
        generalize svcB f.ss.length f.ts.length v=x at hmn HAT hno;clear hall hat hs hrs;obtain⟨v1,v2,v3,v4⟩:=v;simp only at c0 c1 c2 hmn;cases x with
        |false =>
         have hR1:=hno rfl;clear HR hno;subst hR1
         go_wp2_with fail
         go_region_held3 (fun w'=>(w'.cell? ⟨w.heap.size,0,none⟩=some (.slice sa f.ss.length sc)/\w'.cell? ⟨w.heap.size,1,none⟩=some (.slice ta f.ts.length tc)/\w'.cell? ⟨w.heap.size,2,none⟩=some (.slice (some ⟨b,o,none⟩) f.vs.length vc))/\w'.cell? ⟨b,o+i*4,none⟩=some (.int .i64 v1)/\w'.cell? ⟨b,o+i*4+1,none⟩=some (.int .i64 v2)/\w'.cell? ⟨b,o+i*4+2,none⟩=some (.int .i64 v3)/\w'.cell? ⟨b,o+i*4+3,none⟩=some (.slice ra rl rc)) (go_keep) (first|(go_at_call 70;refine(hmn _ (Below.refl _ _).drew).mono ?_;rintro e w8 ⟨rfl,hb8⟩;have p0:=zab hb8 q0;have p1:=zab hb8 q1;have p2:=zab hb8 q2;have r0:=zab hb8 c0;have r1:=zab hb8 c1;have r2:=zab hb8 c2;have r3:=zab hb8 c3))
         go_wp2_with fail
         go_ret;exact⟨rfl,thn3 hB5.drew hb8⟩
        |true =>
         clear hno
         go_wp2_with fail
         go_region_held3 (fun w'=>(w'.cell? ⟨w.heap.size,0,none⟩=some (.slice sa f.ss.length sc)/\w'.cell? ⟨w.heap.size,1,none⟩=some (.slice ta f.ts.length tc)/\w'.cell? ⟨w.heap.size,2,none⟩=some (.slice (some ⟨b,o,none⟩) f.vs.length vc))/\w'.cell? ⟨b,o+i*4,none⟩=some (.int .i64 v1)/\w'.cell? ⟨b,o+i*4+1,none⟩=some (.int .i64 v2)/\w'.cell? ⟨b,o+i*4+2,none⟩=some (.int .i64 v3)/\w'.cell? ⟨b,o+i*4+3,none⟩=some (.slice ra rl rc)) (go_keep) (first|(go_at_call 70;refine(hmn _ (Below.refl _ _).drew).mono ?_;rintro e w8 ⟨rfl,hb8⟩;have p0:=zab hb8 q0;have p1:=zab hb8 q1;have p2:=zab hb8 q2;have r0:=zab hb8 c0;have r1:=zab hb8 c1;have r2:=zab hb8 c2;have r3:=zab hb8 c3))
         go_wp2_with fail
         go_roundw
         case rel=>exact⟨i+1,by omega,by go_num,HAT,thn3 hb5.drew hb8⟩
         case measure=>simp[intOf];omega
       ·have hR1:R=true:=by rw[HR.out,<- hall.out,xf (by omega)]
        clear HR hall;subst hR1
        go_wp2_with fail
        go_ret;exact⟨rfl,hB5⟩
end Go.Proofs.YtkkekopomiehlabGreatDoor
