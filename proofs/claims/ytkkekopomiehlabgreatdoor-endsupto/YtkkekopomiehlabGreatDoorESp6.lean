import Derived.Test.YtkkekopomiehlabGreatDoorESp4
set_option linter.unusedVariables false
set_option linter.unusedSimpArgs false
set_option maxHeartbeats 40000000
open List renaming setIfInBounds_toArray->xe,getElem_cons_zero->xf,getElem_cons_succ->xg,getElem_toArray->xh,set_cons_zero->xj,set_cons_succ->xm,getElem?_eq_some_iff->xq,mem_of_getElem?->xu,getD_eq_getElem?_getD->xv,getElem?_append_left->xy,size_toArray->qd,getElem?_eq_getElem->qe,getElem?_map->qf,length_map->qh,mem_range->qi,range->qm
open Go.Act renaming put->xo
open Go.World renaming rangeAt_setCells_same->xp
open Nat renaming le_refl->xz,zero_le->qg,zero_add->qj,sub_zero->qk
open Go.RowKit
namespace Go.Proofs.YtkkekopomiehlabGreatDoor
section
set_option maxRecDepth 8000
open Go.Lib (below_setCells)
theorem zjd (g n cap:Nat)(wn:List Bool)(w:World):Calls Tryz.prog 50 #[.agg (zao g n cap wn).toArray] w fun e W=>e=.returned (.int .i64 n)/\Below w.heap.size w W:=by
 have c0:=zlv w g n cap wn
 go_enter Tryz.func50,Tryz.ntmps50
 go_wp2_with fail
 go_ret;exact⟨rfl,belS _ _⟩
theorem zsf {w:World}{b g n cap:Nat}{wn:List Bool}(h:w.rangeAt b 0 (zao g n cap wn)):w.rangeAt b 1 (wn.map Value.bool):=by
 have:=zc6 (k:=1) (ds:=wn.map Value.bool) h (fun j v hj=>by rw[Nat.add_comm,zao,List.getElem?_cons_succ];exact hj)
 rwa [qj]at this
def yach (L:List (TS SiD))(wn:List Bool)(B:Nat)(e:Ending)(W:World):Prop :=
 ((∀ t∈L,t.now.has≠wn)/\e=.returned (.tuple #[.slice none 0 0,.bool false])) \/
 ∃ (k D:Nat) (v:Nat->Nat) (t:TS SiD) (u:Value),L[k]?=some t/\t.now.has=wn/\(∀ (i:Nat) (s:TS SiD),i<k->L[i]?=some s->s.now.has≠wn)/\Way L k D v/\e=.returned (.tuple #[u,.bool true])/\W.ownsRow B 62 2 u D (mvC (wayL L v D))
theorem ztu (nx:SiD->Nat->Option SiD)(L:List (TS SiD))(hL:zc7 L)(hlen:L.length<=262144)(T:Nat)(hI:TInv nx L T)(wn:List Bool)(hw:wn.length=9)(g cap:Nat)(w:World)(hr:w.rangeAt g 0 (stsC L)) :
  Calls Tryz.prog 51 #[.agg (zao g L.length cap wn).toArray] w fun e W=>yach L wn w.heap.size e W/\Below w.heap.size w W:=by
 have hb0:=belS w (.cells (zao g L.length cap wn).toArray 118);have c0:=zlv w g L.length cap wn;have hq0:=zbl (zal w (.cells (zao g L.length cap wn).toArray 118));have iw:(Tryz.prog.info? 111).map (·.size)=some (wn.map Value.bool).length:=by rw[qh,hw];exact Tryz.infoSet
 have it:(Tryz.prog.info? 118).map (·.size)=some (zao g L.length cap wn).length:=by rw[show (zao g L.length cap wn).length=10 by simp[zao,hw]];exact Tryz.infoTour
 have HL:= zaa hL;have HRR:=(zaa (zaf hb0 hr));have HI:= zaa hI;have HW:= zaa hw;clear hL hr hI hw
 go_enter Tryz.func51,Tryz.ntmps51
 go_wp2_with fail
 go_loopw [9] (fun vi wr=>∃ i:Nat,i<=L.length/\vi=.int .i64 i/\Hid (∀ (j:Nat) (s:TS SiD),j<i->L[j]?=some s->s.now.has≠wn)/\wr.rangeAt w.heap.size 0 (zao g L.length cap wn)/\Below (w.heap.size+1) (w.alloc (.cells (zao g L.length cap wn).toArray 118)) wr) (fun i _=>L.length-(intOf i).toNat)
 case atStart=>exact⟨0,qg _,rfl,(fun j s hj=>by omega),hq0,Below.refl _ _⟩
 case round =>
  obtain⟨i,hi,rfl,hn,rq,hb⟩:=hrel
  rename World=>w5
  have hbw:Below w.heap.size w w5:=hb0.trans (hb.mono (by simp));by_cases hlt:i<L.length
  ·obtain⟨t,ht⟩:∃ t,L[i]?=some t:=⟨L[i],qe hlt⟩;have hto:=HL.out t (xu ht);have r1:=ziu (zaf (hb.mono (by simp)) HRR.out) HL.out ht;have heq:∀ W,(Op.equalIn 10000 111 (.agg (t.now.has.map Value.bool).toArray) (.agg (wn.map Value.bool).toArray)).run Tryz.prog W=.ok (decide (t.now.has=wn)) W:=fun W=>zll W 9998 hto.1 HW.out;have h20:(stC t).toArray.size=20:=by simpa using zdw hto
   have hi20:(Tryz.prog.info? 180).map (·.size)=some (stC t).length:=by rw[zdw hto];exact Tryz.infoStp
   have hi21:(Tryz.prog.info? 180).map (·.size)=some (stC t).toArray.size:=by rw[qd];exact hi20
   have ih:(Tryz.prog.info? 111).map (·.size)=some (t.now.has.map Value.bool).length:=by rw[qh,hto.1];exact Tryz.infoSet
   have h1:=zir t;have h6:∀ cs:Array Value,cs.size=20->(fun W=>W.rangeAt w5.heap.size 0 (t.now.has.map Value.bool)/\W.rangeAt w.heap.size 0 (zao g L.length cap wn)/\Below (w.heap.size+1) (w.alloc (.cells (zao g L.length cap wn).toArray 118)) W) ((w5.alloc (.cells cs 180)).setCells w5.heap.size 0 (stC t)):=fun cs hcs=>by
    have z5:=hb.size;rw[zb5]at z5;refine⟨?_,?_,?_⟩
    ·have:=zc6 (k:=0) (ds:=t.now.has.map Value.bool) (xp _ w5.heap.size 0 (stC t) (by simpa using zc8 (xs:=(stC t).toArray) (t:=180) h20 hcs)) (fun j v hj=>by
      have hl:=(xq.1 hj).1;rw[qj];unfold stC SiD.cells;rw[xy (by simp at hl ⊢;omega),List.map_append,xy hl];exact hj)
     exact this
    ·exact World.rangeAt_setCells_apart (zaf (belS _ _) rq) _ _ _ (.inl (by omega))
    ·exact below_setCells _ (by omega) _ _ (hb.alloc (by omega) _)
   have H6:= zaa h6;have hx0 := znn i;have hx1:(i:Int)<(L.length:Int):=by omega
   have HT:= zaa ht;clear h6 ht;by_cases hx:t.now.has=wn
   ·have HX:= zaa hx;rw[decide_eq_true hx]at heq;obtain⟨D,v,hway⟩:=yae1 HI.out i i (xz _) hlt;have hmt:=fun (W:World) (h:W.rangeAt g 0 (stsC L))=>zyf L HL.out hlen i D v hlt hway (fun j a ha=>(HI.out.tm j a ha).2.2.1) wn g cap W h;have rg5:=zaf (hb.mono (by simp)) HRR.out;have hgl:g<w5.heap.size:=zij rg5 (by rw[zit HL.out];omega);have hgw:g<w.heap.size+1:=by
     have:=zij HRR.out (by rw[zit HL.out];omega);rw[zb5]at this;exact this
    have HWY:= zaa hway;clear hx hway
    go_wp2_with (first
     |(refine wpList_load_mid (w:=w5) rfl 180 _ rfl g (i*20) rfl (stC t) _ r1 Tryz.underlying180 rfl hi20 ?_;simp only[xo,xe,xj,xm,xh,xf,xg])
     |(refine zcn rfl 180 _ _ rfl w5.heap.size 0 (stC t).toArray rfl rfl (zc8 h20 (by rfl)) hi21 h1 (fun W=>W.rangeAt w5.heap.size 0 (t.now.has.map Value.bool)/\W.rangeAt w.heap.size 0 (zao g L.length cap wn)/\Below (w.heap.size+1) (w.alloc (.cells (zao g L.length cap wn).toArray 118)) W) (H6.out _ (by rfl)) ?_;rintro w6 ⟨q1,q2,q3⟩;have qw:=zsf q2;simp only[xo,xe,xj,xm,xh,xf,xg];have m0:True:=trivial)
     |(have hq:=m2;refine zi4 rfl 111 _ _ _ rfl _ _ rfl rfl Tryz.eqgSet _ (heq _) ?_;simp only[xo,xe,xj,xm,xh,xf,xg])
     |(have hq:=m1;refine wpList_load_mid (w:=w6) rfl 111 _ rfl w.heap.size 1 rfl (wn.map Value.bool) _ qw Tryz.underlying111 rfl iw ?_;simp only[xo,xe,xj,xm,xh,xf,xg];have m2:True:=trivial)
     |(have hq:=m0;refine wpList_load_mid (w:=w6) rfl 111 _ rfl w5.heap.size 0 rfl (t.now.has.map Value.bool) _ q1 Tryz.underlying111 rfl ih ?_;simp only[xo,xe,xj,xm,xh,xf,xg];have m1:True:=trivial)
     |(have hq:=m2;refine wpList_load_mid (w:=w6) rfl 118 _ rfl w.heap.size 0 rfl (zao g L.length cap wn) _ q2 Tryz.underlying118 rfl it ?_;simp only[xo,xe,xj,xm,xh,xf,xg])
     |(go_at_call 116;refine(hmt _ (zaf (q3.mono (by simp)) HRR.out)).mono ?_;rintro e w7 ⟨u,rfl,hown7,hb7⟩))
    go_ret2
    have hb8:Below w.heap.size w w6:=hb0.trans (q3.mono (by simp));exact⟨.inr ⟨i,D,v,t,u,HT.out,HX.out,hn.out,HWY.out,rfl,hown7.mono hb8.size⟩,thn3 hb8 hb7⟩
   ·rw[decide_eq_false hx]at heq;have HX:= zaa hx;clear hx
    go_wp2_with (first
     |(refine wpList_load_mid (w:=w5) rfl 180 _ rfl g (i*20) rfl (stC t) _ r1 Tryz.underlying180 rfl hi20 ?_;simp only[xo,xe,xj,xm,xh,xf,xg])
     |(refine zcn rfl 180 _ _ rfl w5.heap.size 0 (stC t).toArray rfl rfl (zc8 h20 (by rfl)) hi21 h1 (fun W=>W.rangeAt w5.heap.size 0 (t.now.has.map Value.bool)/\W.rangeAt w.heap.size 0 (zao g L.length cap wn)/\Below (w.heap.size+1) (w.alloc (.cells (zao g L.length cap wn).toArray 118)) W) (H6.out _ (by rfl)) ?_;rintro w6 ⟨q1,q2,q3⟩;have qw:=zsf q2;simp only[xo,xe,xj,xm,xh,xf,xg];have m0:True:=trivial)
     |(have hq:=m2;refine zi4 rfl 111 _ _ _ rfl _ _ rfl rfl Tryz.eqgSet _ (heq _) ?_;simp only[xo,xe,xj,xm,xh,xf,xg])
     |(have hq:=m1;refine wpList_load_mid (w:=w6) rfl 111 _ rfl w.heap.size 1 rfl (wn.map Value.bool) _ qw Tryz.underlying111 rfl iw ?_;simp only[xo,xe,xj,xm,xh,xf,xg];have m2:True:=trivial)
     |(have hq:=m0;refine wpList_load_mid (w:=w6) rfl 111 _ rfl w5.heap.size 0 rfl (t.now.has.map Value.bool) _ q1 Tryz.underlying111 rfl ih ?_;simp only[xo,xe,xj,xm,xh,xf,xg];have m1:True:=trivial))
    go_roundw
    case rel =>
     refine⟨i+1,by omega,by go_num,fun j s hj hs=>?_,q2,q3⟩;by_cases hji:j=i
     ·subst hji;rw[HT.out]at hs;cases hs;exact HX.out
     ·exact hn.out j s (by omega) hs
    case measure=>simp[intOf];omega
  ·have hno:∀ t∈L,t.now.has≠wn:=fun t ht=>by
    obtain⟨j,hj⟩:=List.getElem?_of_mem ht;exact hn.out j t (by have:=(xq.1 hj).1;omega) hj
   have HNO:= zaa hno;clear hn hno
   go_wp2_with fail
   go_ret2
   exact⟨.inl ⟨HNO.out,rfl⟩,hbw⟩
end
section
set_option maxRecDepth 16000
open Go.Lib (below_setCells)
theorem zsd {c:ChD}{K:Nat}(h:(touS c K).length<=K):∀ d,touS c (K+d)=touS c K
 |0=>rfl
 |d+1=>by
  have ih:=zsd h d;have:(touS c (K+d))[K+d]?=none:=by rw[ih];exact List.getElem?_eq_none (by omega)
  show tou (nxS c) (begD c) (K+d+1)=_;rw[tou];unfold touS at this;rw[this];exact ih
def zbo (c:ChD):List (TS SiD):=touS c 262144
theorem zg4 {c:ChD}(hc:c.ok){K:Nat}(h:(touS c K).length=K):touS c K=zbo c:=by
 have hl:=zg3 hc (k:=K) (by omega);have:=zsd (c:=c) (K:=K) (by omega) (262144-K);rw[show K+(262144-K)=262144 by omega]at this;exact this.symm
theorem zse {c:ChD}(hc:c.ok):zc7 (zbo c):=ze8 hc _
theorem zlw (g n cap:Nat)(wn:List Bool):(zao g n cap wn).toArray.all (·.oneCell')=true:=all_oneCell_toArray fun v hv=>by
 rcases List.mem_cons.1 hv with rfl|hv
 ·rfl
 ·obtain⟨b,_,rfl⟩:=List.mem_map.1 hv;rfl
def FirstAt (L:List (TS SiD))(wn:List Bool)(ms:List (Int×Int)):Prop :=
 ∃ (k D:Nat) (v:Nat->Nat) (t:TS SiD),L[k]?=some t/\t.now.has=wn/\(∀ (i:Nat) (s:TS SiD),i<k->L[i]?=some s->s.now.has≠wn)/\Way L k D v/\ms=wayL L v D
def PlanIs (f:zac)(b:Int)(ms:List (Int×Int))(err:Int):Prop :=
 if ordB f=true then (if b<1 then ms=[]/\err=11 else if sndB (zai f)=true then (if b<(zbo (zai f)).length then ms=[]/\err=12 else ((∀ t∈zbo (zai f),t.now.has≠(zai f).wnt)/\ms=[]/\err=13)\/(FirstAt (zbo (zai f)) (zai f).wnt ms/\err=0)) else ms=[]/\err=10) else ms=[]/\err=8
def zqt (f:zac)(b:Int)(B:Nat)(e:Ending)(W:World):Prop :=
 ∃ (u:Value) (ms:List (Int×Int)) (err:Int),e=.returned (.tuple #[u,.int .i64 err])/\W.ownsRow B 62 2 u ms.length (mvC ms)/\PlanIs f b ms err
theorem zgu {f:zac}{b:Int}{B:Nat}{W:World}{err:Int}(h:PlanIs f b [] err):zqt f b B (.returned (.tuple #[.slice none 0 0,.int .i64 err])) W:=⟨_,[],err,rfl,World.ownsRow_nil W B _ _,h⟩
theorem yaez (L:List (TS SiD))(v:Nat->Nat)(D:Nat):(wayL L v D).length=D:=by simp[wayL]
theorem zth (c:ChD)(hc:c.ok)(w:World) :
  Calls Tryz.prog 49 #[.agg c.cells.toArray] w fun e W=>∃ g cap,e=.returned (.agg (zao g (zbo c).length cap c.wnt).toArray)/\W.rangeAt g 0 (stsC (zbo c))/\Below w.heap.size w W:=by
 refine(zti c hc w).mono ?_;rintro e W ⟨g,cap,K,rfl,hK,hr,hb⟩;have:=zg4 hc hK;rw[this]at hK hr;exact⟨g,cap,by rw[hK],hr,hb⟩
theorem yad5 {c:ChD}(hc:c.ok){K:Nat}(h:(touS c K).length=K):TInv (nxS c) (zbo c) (9*(zbo c).length):=by
 rw[<- zg4 hc h,h];exact(ziy (nxS c) (begD c) K (by show K<=(touS c K).length;omega)).1
theorem yad6 {c:ChD}(hc:c.ok):∃ K,(touS c K).length=K:=by
 have:∀ n,(∃ K,(touS c K).length=K)\/n<=(touS c n).length:=by
  intro n
  induction n with
  |zero=>exact .inr (qg _)
  |succ n ih =>
   rcases ih with h|h
   ·exact .inl h
   ·rcases Nat.lt_or_ge n (touS c n).length with hlt|hge
    ·right;obtain⟨a,ha⟩:∃ a,(touS c n)[n]?=some a:=⟨_,qe hlt⟩;exact(xq.1 (yad4 ha)).1
    ·exact .inl ⟨n,by omega⟩
 rcases this 262145 with h|h
 ·exact h
 ·have:=zg3 hc h;omega
theorem ztm (f:zac)(sa ta va:Option Addr)(sl sc tl tc vl vc:Nat)(b:Int)(w:World)(hf:FleetAt w sa sl sc ta tl tc va vl vc f) :
  Calls Tryz.prog 20 #[.agg #[.slice sa sl sc,.slice ta tl tc,.slice va vl vc],.int .i64 b] w fun e W=>zqt f b w.heap.size e W/\Below w.heap.size w W:=by
 have f0:=box3 w (.slice sa sl sc) (.slice ta tl tc) (.slice va vl vc) 26;have hio:=fun (W:World) (h:Below w.heap.size w W)=>zl6 f sa ta va sl sc tl tc vl vc W (hf.keep h);have hb0:=bel1 w (.cells #[.slice sa sl sc,.slice ta tl tc,.slice va vl vc] 26);cases hob:ordB f with
 |false =>
  rw[hob]at hio;have hp:PlanIs f b [] 8:=by unfold PlanIs;rw[hob];simp
  have HP:= zaa hp;clear hf hp hob
  go_enter Tryz.func20,Tryz.ntmps20
  go_wp2_with (first
   |(go_at_call 46;refine(hio _ hb0).mono ?_;rintro e w1 ⟨rfl,hb1⟩;have f1:=zaq hb1 f0))
  go_ret2
  exact⟨zgu HP.out,thn3 hb0 hb1⟩
 |true =>
  rw[hob]at hio;have ho:=zb3 hob;have hch:=fun (W:World) (h:Below w.heap.size w W)=>zl3 f ho sa ta va sl sc tl tc vl vc W (hf.keep h);have hok:=zf9 f;by_cases hbb:b<1
  ·have hp:PlanIs f b [] 11:=by unfold PlanIs;rw[if_pos hob,if_pos hbb];exact⟨rfl,rfl⟩
   have HP:= zaa hp;clear hf hp hob hch ho
   go_enter Tryz.func20,Tryz.ntmps20
   go_wp2_with (first
    |(go_at_call 46;refine(hio _ hb0).mono ?_;rintro e w1 ⟨rfl,hb1⟩;have f1:=zaq hb1 f0))
   go_ret2
   exact⟨zgu HP.out,thn3 hb0 hb1⟩
  have hsn:=fun (W:World)=>zmf (zai f) hok W;have hex:=fun (W:World)=>zth (zai f) hok W;have hi6:(Tryz.prog.info? 114).map (·.size)=some (zai f).cells.length:=by rw[hok.len];exact Tryz.infoCht
  have h16:(zai f).cells.toArray.all (·.oneCell')=true:=zd2 _;have hCl:=hok.len;obtain⟨K,hK⟩:=yad6 hok;have hsh:=fun (g cap:Nat) (W:World) (h:W.rangeAt g 0 (stsC (zbo (zai f))))=>ztu (nxS (zai f)) (zbo (zai f)) (zse hok) (by rw[<- zg4 hok hK];exact zg3 hok (by omega)) _ (yad5 hok hK) (zai f).wnt hok.wnt g cap W h;have htz:∀ g cap,(zao g (zbo (zai f)).length cap (zai f).wnt).toArray.size=10:=fun g cap=>by simp[zao,hok.wnt]
  have hit2:∀ g cap,(Tryz.prog.info? 118).map (·.size)=some (zao g (zbo (zai f)).length cap (zai f).wnt).toArray.size:=fun g cap=>by rw[htz];exact Tryz.infoTour
  have hit:∀ g cap,(Tryz.prog.info? 118).map (·.size)=some (zao g (zbo (zai f)).length cap (zai f).wnt).length:=fun g cap=>by have:=hit2 g cap;rwa [qd]at this
  have hLl:(zbo (zai f)).length<=262144:=by rw[<- zg4 hok hK];exact zg3 hok (by omega)
  have hPI:∀ (ms:List (Int×Int)) (err:Int),(if sndB (zai f)=true then (if b<(zbo (zai f)).length then ms=[]/\err=12 else ((∀ t∈zbo (zai f),t.now.has≠(zai f).wnt)/\ms=[]/\err=13)\/(FirstAt (zbo (zai f)) (zai f).wnt ms/\err=0)) else ms=[]/\err=10)->PlanIs f b ms err:=fun ms err h=>by unfold PlanIs;rw[if_pos hob,if_neg hbb];exact h
  have hso:=zse hok;clear hK hok ho hob;generalize hLdef:zbo (zai f)=L at hex hsh htz hit2 hit hLl hPI hso;clear hLdef;generalize (zai f)=C at hch hsn hex hi6 h16 hCl hsh htz hit2 hit hPI;have hi7:(Tryz.prog.info? 114).map (·.size)=some C.cells.toArray.size:=by rw[qd];exact hi6
  have hz:∀ W:World,(W.alloc (.cells Tryz.zeroCells114 114)).there W.heap.size 0 C.cells.toArray.size:=fun W=>by
   rw[show C.cells.toArray.size=189 by simpa using hCl,Tryz.zeroCht];have:=zcm (zal W (.cells ((List.replicate 189 false).map Value.bool).toArray 114));simpa using this
  have hrs:∀ W:World,(fun V:World=>V.rangeAt W.heap.size 0 C.cells/\Below W.heap.size W V) ((W.alloc (.cells Tryz.zeroCells114 114)).setCells W.heap.size 0 C.cells):=fun W=>⟨xp _ W.heap.size 0 C.cells (by simpa using hz W),below_setCells W.heap.size (xz _) _ _ (belS _ _)⟩;have htr:∀ (g cap:Nat) (W:World),W.rangeAt g 0 (stsC L)->∀ cs:Array Value,cs.size=10->(fun V:World=>V.rangeAt W.heap.size 0 (zao g L.length cap C.wnt)/\V.rangeAt g 0 (stsC L)/\Below W.heap.size W V) ((W.alloc (.cells cs 118)).setCells W.heap.size 0 (zao g L.length cap C.wnt)):=fun g cap W hr cs hcs=>by
   have hb:=below_setCells W.heap.size (xz _) (zao g L.length cap C.wnt) 0 (belS W (.cells cs 118));exact⟨xp _ _ _ _ (by simpa using zc8 (xs:=(zao g L.length cap C.wnt).toArray) (t:=118) (htz g cap) hcs),zaf hb hr,hb⟩
  have HZ:= zaa hz;have HRS:= zaa hrs;have HTR:= zaa htr;have HPI:= zaa hPI;clear hf hCl hz hrs htr hPI;generalize sndB C=y at hsn HPI;cases y with
  |false =>
   have HP:Hid (PlanIs f b [] 10):=HPI.out _ _ (by simp);clear HPI hex hsh
   go_enter Tryz.func20,Tryz.ntmps20
   go_wp2_with (first
    |(go_at_call 48;refine(hsn _).mono ?_;rintro e w4 ⟨rfl,hb4⟩;have rs4:=zaf hb4 rs3;have B4:Below w.heap.size w w4:=thn3 (thn3 (thn3 (thn3 hb0 hb1) hb2) hb3) hb4)
    |(have hq:=rs3;refine wpList_load_mid (w:=w3) rfl 114 _ rfl w2.heap.size 0 rfl C.cells _ rs3 Tryz.underlying114 rfl hi6 ?_;simp only[xo,xe,xj,xm,xh,xf,xg])
    |(have hq:=hz2;refine zcn rfl 114 _ _ rfl w2.heap.size 0 C.cells.toArray rfl rfl hz2 hi7 h16 (fun W=>W.rangeAt w2.heap.size 0 C.cells/\Below w2.heap.size w2 W) (HRS.out w2) ?_;rintro w3 ⟨rs3,hb3⟩;simp only[xo,xe,xj,xm,xh,xf,xg])
    |(go_at_call 47;refine(hch _ (thn3 hb0 hb1)).mono ?_;rintro e w2 ⟨rfl,hb2⟩;have hz2:=HZ.out w2)
    |(go_at_call 46;refine(hio _ hb0).mono ?_;rintro e w1 ⟨rfl,hb1⟩;have f1:=zaq hb1 f0))
   go_ret2
   exact⟨zgu HP.out,B4⟩
  |true =>
   by_cases hlen:b<L.length
   ·have HP:Hid (PlanIs f b [] 12):=HPI.out _ _ (by simp[hlen]);clear HPI hsh
    go_enter Tryz.func20,Tryz.ntmps20
    go_wp2_with (first
     |(go_at_call 50;refine(zjd _ _ _ _ _).mono ?_;rintro e w7 ⟨rfl,hb7⟩;have rt7:=zaf hb7 rt6;have rg7:=zaf hb7 rg6;have B7:=thn3 B6 hb7)
     |(have hq:=rt6;refine wpList_load_mid (w:=w6) rfl 118 _ rfl w5.heap.size 0 rfl (zao g L.length cap C.wnt) _ rt6 Tryz.underlying118 rfl (hit g cap) ?_;simp only[xo,xe,xj,xm,xh,xf,xg])
     |(have hq:=rg5;refine zcn rfl 118 _ _ rfl w5.heap.size 0 (zao g L.length cap C.wnt).toArray rfl rfl (zc8 (htz g cap) (by rfl)) (hit2 g cap) (zlw _ _ _ _) (fun W=>W.rangeAt w5.heap.size 0 (zao g L.length cap C.wnt)/\W.rangeAt g 0 (stsC L)/\Below w5.heap.size w5 W) (HTR.out g cap w5 rg5 _ (by rfl)) ?_;rintro w6 ⟨rt6,rg6,hb6⟩;have B6:=thn3 B5 hb6;simp only[xo,xe,xj,xm,xh,xf,xg])
     |(go_at_call 49;refine(hex _).mono ?_;rintro e w5 ⟨g,cap,rfl,rg5,hb5⟩;have B5:=thn3 B4 hb5)
     |(have hq:=rs4;refine wpList_load_mid (w:=w4) rfl 114 _ rfl w2.heap.size 0 rfl C.cells _ rs4 Tryz.underlying114 rfl hi6 ?_;simp only[xo,xe,xj,xm,xh,xf,xg])
     |(go_at_call 48;refine(hsn _).mono ?_;rintro e w4 ⟨rfl,hb4⟩;have rs4:=zaf hb4 rs3;have B4:Below w.heap.size w w4:=thn3 (thn3 (thn3 (thn3 hb0 hb1) hb2) hb3) hb4)
     |(have hq:=rs3;refine wpList_load_mid (w:=w3) rfl 114 _ rfl w2.heap.size 0 rfl C.cells _ rs3 Tryz.underlying114 rfl hi6 ?_;simp only[xo,xe,xj,xm,xh,xf,xg])
     |(have hq:=hz2;refine zcn rfl 114 _ _ rfl w2.heap.size 0 C.cells.toArray rfl rfl hz2 hi7 h16 (fun W=>W.rangeAt w2.heap.size 0 C.cells/\Below w2.heap.size w2 W) (HRS.out w2) ?_;rintro w3 ⟨rs3,hb3⟩;simp only[xo,xe,xj,xm,xh,xf,xg])
     |(go_at_call 47;refine(hch _ (thn3 hb0 hb1)).mono ?_;rintro e w2 ⟨rfl,hb2⟩;have hz2:=HZ.out w2)
     |(go_at_call 46;refine(hio _ hb0).mono ?_;rintro e w1 ⟨rfl,hb1⟩;have f1:=zaq hb1 f0))
    go_ret2
    exact⟨zgu HP.out,B7⟩
   ·have hlen':(L.length:Int)<=b:=by omega
    have HP:Hid (∀ ms err,(((∀ t∈L,t.now.has≠C.wnt)/\ms=[]/\err=13)\/(FirstAt L C.wnt ms/\err=0))->PlanIs f b ms err):=fun ms err h=>HPI.out _ _ (by rw[if_pos rfl,if_neg hlen];exact h);clear HPI hlen;by_cases hno:∀ t∈L,t.now.has≠C.wnt
    ·have hsh2:∀ (g cap:Nat) (W:World),W.rangeAt g 0 (stsC L)->Calls Tryz.prog 51 #[.agg (zao g L.length cap C.wnt).toArray] W fun e V=>e=.returned (.tuple #[.slice none 0 0,.bool false])/\Below W.heap.size W V:=fun g cap W h=>by
      refine(hsh g cap W h).mono ?_;rintro e V ⟨h1|⟨k,D,v,t,u,h1,h2,_⟩,hb⟩
      ·exact⟨h1.2,hb⟩
      ·exact absurd h2 (hno t (xu h1))
     have HP2:=(zaa (HP.out [] 13 (.inl ⟨hno,rfl,rfl⟩)));clear HP hsh hno
     go_enter Tryz.func20,Tryz.ntmps20
     go_wp2_with (first
      |(go_at_call 51;refine(hsh2 g cap _ rg7).mono ?_;rintro e w8 ⟨rfl,hb8⟩)
      |(have hq:=rt7;refine wpList_load_mid (w:=w7) rfl 118 _ rfl w5.heap.size 0 rfl (zao g L.length cap C.wnt) _ rt7 Tryz.underlying118 rfl (hit g cap) ?_;simp only[xo,xe,xj,xm,xh,xf,xg])
      |(go_at_call 50;refine(zjd _ _ _ _ _).mono ?_;rintro e w7 ⟨rfl,hb7⟩;have rt7:=zaf hb7 rt6;have rg7:=zaf hb7 rg6;have B7:=thn3 B6 hb7)
      |(have hq:=rt6;refine wpList_load_mid (w:=w6) rfl 118 _ rfl w5.heap.size 0 rfl (zao g L.length cap C.wnt) _ rt6 Tryz.underlying118 rfl (hit g cap) ?_;simp only[xo,xe,xj,xm,xh,xf,xg])
      |(have hq:=rg5;refine zcn rfl 118 _ _ rfl w5.heap.size 0 (zao g L.length cap C.wnt).toArray rfl rfl (zc8 (htz g cap) (by rfl)) (hit2 g cap) (zlw _ _ _ _) (fun W=>W.rangeAt w5.heap.size 0 (zao g L.length cap C.wnt)/\W.rangeAt g 0 (stsC L)/\Below w5.heap.size w5 W) (HTR.out g cap w5 rg5 _ (by rfl)) ?_;rintro w6 ⟨rt6,rg6,hb6⟩;have B6:=thn3 B5 hb6;simp only[xo,xe,xj,xm,xh,xf,xg])
      |(go_at_call 49;refine(hex _).mono ?_;rintro e w5 ⟨g,cap,rfl,rg5,hb5⟩;have B5:=thn3 B4 hb5)
      |(have hq:=rs4;refine wpList_load_mid (w:=w4) rfl 114 _ rfl w2.heap.size 0 rfl C.cells _ rs4 Tryz.underlying114 rfl hi6 ?_;simp only[xo,xe,xj,xm,xh,xf,xg])
      |(go_at_call 48;refine(hsn _).mono ?_;rintro e w4 ⟨rfl,hb4⟩;have rs4:=zaf hb4 rs3;have B4:Below w.heap.size w w4:=thn3 (thn3 (thn3 (thn3 hb0 hb1) hb2) hb3) hb4)
      |(have hq:=rs3;refine wpList_load_mid (w:=w3) rfl 114 _ rfl w2.heap.size 0 rfl C.cells _ rs3 Tryz.underlying114 rfl hi6 ?_;simp only[xo,xe,xj,xm,xh,xf,xg])
      |(have hq:=hz2;refine zcn rfl 114 _ _ rfl w2.heap.size 0 C.cells.toArray rfl rfl hz2 hi7 h16 (fun W=>W.rangeAt w2.heap.size 0 C.cells/\Below w2.heap.size w2 W) (HRS.out w2) ?_;rintro w3 ⟨rs3,hb3⟩;simp only[xo,xe,xj,xm,xh,xf,xg])
      |(go_at_call 47;refine(hch _ (thn3 hb0 hb1)).mono ?_;rintro e w2 ⟨rfl,hb2⟩;have hz2:=HZ.out w2)
      |(go_at_call 46;refine(hio _ hb0).mono ?_;rintro e w1 ⟨rfl,hb1⟩;have f1:=zaq hb1 f0))
     go_ret2
     exact⟨zgu HP2.out,thn3 B7 hb8⟩
    ·have hsh2:∀ (g cap:Nat) (W:World),W.rangeAt g 0 (stsC L)->Calls Tryz.prog 51 #[.agg (zao g L.length cap C.wnt).toArray] W fun e V=>∃ (u:Value) (ms:List (Int×Int)),e=.returned (.tuple #[u,.bool true])/\V.ownsRow W.heap.size 62 2 u ms.length (mvC ms)/\PlanIs f b ms 0/\Below W.heap.size W V:=fun g cap W h=>by
      refine(hsh g cap W h).mono ?_;rintro e V ⟨h1|⟨k,D,v,t,u,h1,h2,h3,h4,h5,h6⟩,hb⟩
      ·exact absurd h1.1 hno
      ·exact⟨u,wayL L v D,h5,by rw[yaez];exact h6,HP.out _ _ (.inr ⟨⟨k,D,v,t,h1,h2,h3,h4,rfl⟩,rfl⟩),hb⟩
     clear HP hsh hno
     go_enter Tryz.func20,Tryz.ntmps20
     go_wp2_with (first
      |(go_at_call 51;refine(hsh2 g cap _ rg7).mono ?_;rintro e w8 ⟨u,ms,rfl,hown8,hp8,hb8⟩;have hp8:= zaa hp8;have hown8:=(zaa hown8))
      |(have hq:=rt7;refine wpList_load_mid (w:=w7) rfl 118 _ rfl w5.heap.size 0 rfl (zao g L.length cap C.wnt) _ rt7 Tryz.underlying118 rfl (hit g cap) ?_;simp only[xo,xe,xj,xm,xh,xf,xg])
      |(go_at_call 50;refine(zjd _ _ _ _ _).mono ?_;rintro e w7 ⟨rfl,hb7⟩;have rt7:=zaf hb7 rt6;have rg7:=zaf hb7 rg6;have B7:=thn3 B6 hb7)
      |(have hq:=rt6;refine wpList_load_mid (w:=w6) rfl 118 _ rfl w5.heap.size 0 rfl (zao g L.length cap C.wnt) _ rt6 Tryz.underlying118 rfl (hit g cap) ?_;simp only[xo,xe,xj,xm,xh,xf,xg])
      |(have hq:=rg5;refine zcn rfl 118 _ _ rfl w5.heap.size 0 (zao g L.length cap C.wnt).toArray rfl rfl (zc8 (htz g cap) (by rfl)) (hit2 g cap) (zlw _ _ _ _) (fun W=>W.rangeAt w5.heap.size 0 (zao g L.length cap C.wnt)/\W.rangeAt g 0 (stsC L)/\Below w5.heap.size w5 W) (HTR.out g cap w5 rg5 _ (by rfl)) ?_;rintro w6 ⟨rt6,rg6,hb6⟩;have B6:=thn3 B5 hb6;simp only[xo,xe,xj,xm,xh,xf,xg])
      |(go_at_call 49;refine(hex _).mono ?_;rintro e w5 ⟨g,cap,rfl,rg5,hb5⟩;have B5:=thn3 B4 hb5)
      |(have hq:=rs4;refine wpList_load_mid (w:=w4) rfl 114 _ rfl w2.heap.size 0 rfl C.cells _ rs4 Tryz.underlying114 rfl hi6 ?_;simp only[xo,xe,xj,xm,xh,xf,xg])
      |(go_at_call 48;refine(hsn _).mono ?_;rintro e w4 ⟨rfl,hb4⟩;have rs4:=zaf hb4 rs3;have B4:Below w.heap.size w w4:=thn3 (thn3 (thn3 (thn3 hb0 hb1) hb2) hb3) hb4)
      |(have hq:=rs3;refine wpList_load_mid (w:=w3) rfl 114 _ rfl w2.heap.size 0 rfl C.cells _ rs3 Tryz.underlying114 rfl hi6 ?_;simp only[xo,xe,xj,xm,xh,xf,xg])
      |(have hq:=hz2;refine zcn rfl 114 _ _ rfl w2.heap.size 0 C.cells.toArray rfl rfl hz2 hi7 h16 (fun W=>W.rangeAt w2.heap.size 0 C.cells/\Below w2.heap.size w2 W) (HRS.out w2) ?_;rintro w3 ⟨rs3,hb3⟩;simp only[xo,xe,xj,xm,xh,xf,xg])
      |(go_at_call 47;refine(hch _ (thn3 hb0 hb1)).mono ?_;rintro e w2 ⟨rfl,hb2⟩;have hz2:=HZ.out w2)
      |(go_at_call 46;refine(hio _ hb0).mono ?_;rintro e w1 ⟨rfl,hb1⟩;have f1:=zaq hb1 f0))
     go_ret2
     exact⟨⟨u,ms,0,rfl,hown8.out.mono B7.size,hp8.out⟩,thn3 B7 hb8⟩
end
section
set_option maxRecDepth 4000
theorem Way.key {α:Type}{L:List (TS α)}{g D D':Nat}{v v':Nat->Nat}(h:Way L g D v)(h':Way L g D' v'):∀ d,d<=D->d<=D'/\v (D-d)=v' (D'-d)
 |0,_=>⟨qg _,by rw[qk,qk,h.last,h'.last]⟩
 |d+1,hd=>by
  obtain⟨h1,h2⟩:=Way.key h h' d (by omega);obtain⟨p1,p2,a,ha,hf⟩:=h.step (D-(d+1)) (by omega);rw[show D-(d+1)+1=D-d by omega]at p1 p2 ha;have hne:D'-d≠0:=fun e=>by rw[e,h'.zero]at h2;omega
  obtain⟨q1,q2,b,hb,hg⟩:=h'.step (D'-(d+1)) (by omega);rw[show D'-(d+1)+1=D'-d by omega,<- h2,ha]at hb;cases hb;exact⟨by omega,by rw[<- hf,<- hg]⟩
theorem Way.uniq {α:Type}{L:List (TS α)}{g D D':Nat}{v v':Nat->Nat}(h:Way L g D v)(h':Way L g D' v'):D=D'/\∀ t,t<=D->v t=v' t:=by
 have h1:=(Way.key h h' D (xz _)).1;have h2:=(Way.key h' h D' (xz _)).1;obtain rfl:D=D':=by omega
 refine⟨rfl,fun t ht=>?_⟩;have:=(Way.key h h' (D-t) (by omega)).2
 rwa [show D-(D-t)=t by omega]at this
theorem yaey {L:List (TS SiD)}{v v':Nat->Nat}{D:Nat}(h:∀ t,t<=D->v t=v' t):wayL L v D=wayL L v' D:=by
 unfold wayL;refine List.map_congr_left fun t ht=>?_;have:=qi.1 ht;unfold wayM;rw[h (t+1) (by omega)]
theorem FirstAt.uniq {L:List (TS SiD)}{wn:List Bool}{ms ms':List (Int×Int)}(h:FirstAt L wn ms)(h':FirstAt L wn ms'):ms=ms':=by
 obtain⟨k,D,v,t,hk,ht,hf,hw,rfl⟩:=h;obtain⟨k',D',v',t',hk',ht',hf',hw',rfl⟩:=h';have e1:¬ k<k':=fun hc=>hf' k t hc hk ht;have e2:¬ k'<k:=fun hc=>hf k' t' hc hk' ht';obtain rfl:k=k':=by omega
 obtain⟨rfl,he⟩:=hw.uniq hw';exact yaey he
theorem FirstAt.some {L:List (TS SiD)}{wn:List Bool}{ms:List (Int×Int)}(h:FirstAt L wn ms)(hn:∀ t∈L,t.now.has≠wn):False:=by
 obtain⟨k,D,v,t,hk,ht,_⟩:=h;exact hn t (xu hk) ht
theorem PlanIs.uniq {f:zac}{b:Int}{ms ms':List (Int×Int)}{e e':Int}(h:PlanIs f b ms e)(h':PlanIs f b ms' e'):ms=ms'/\e=e':=by
 unfold PlanIs at h h';by_cases h1:ordB f=true
 ·rw[if_pos h1]at h h';by_cases h2:b<1
  ·rw[if_pos h2]at h h';exact⟨h.1.trans h'.1.symm,h.2.trans h'.2.symm⟩
  ·rw[if_neg h2]at h h';by_cases h3:sndB (zai f)=true
   ·rw[if_pos h3]at h h';by_cases h4:b<(zbo (zai f)).length
    ·rw[if_pos h4]at h h';exact⟨h.1.trans h'.1.symm,h.2.trans h'.2.symm⟩
    ·rw[if_neg h4]at h h';rcases h with⟨hn,h5,h6⟩|⟨h5,h6⟩
     ·rcases h' with⟨_,h7,h8⟩|⟨h7,_⟩
      ·exact⟨h5.trans h7.symm,h6.trans h8.symm⟩
      ·exact(h7.some hn).elim
     ·rcases h' with⟨hn,_,_⟩|⟨h7,h8⟩
      ·exact(h5.some hn).elim
      ·exact⟨h5.uniq h7,h6.trans h8.symm⟩
   ·rw[if_neg h3]at h h';exact⟨h.1.trans h'.1.symm,h.2.trans h'.2.symm⟩
 ·rw[if_neg h1]at h h';exact⟨h.1.trans h'.1.symm,h.2.trans h'.2.symm⟩
end
section
set_option maxRecDepth 100000
theorem zga {f g:zac}(hs:f.ss=g.ss)(hv:f.vs.map (fun (v:SvcD)=>(v.now,v.want,v.rels))=g.vs.map (fun (v:SvcD)=>(v.now,v.want,v.rels)))(ht:f.ts.map (fun (k:Int)=>k == 0)=g.ts.map (fun (k:Int)=>k == 0)):zai f=zai g:=by
 have hi:∀ i:Nat,(f.vs[i]?).map (fun (v:SvcD)=>(v.now,v.want,v.rels))=(g.vs[i]?).map (fun (v:SvcD)=>(v.now,v.want,v.rels)):=fun (i:Nat)=>by
  have:=congrArg (fun l=>l[i]?) hv;simpa[qf]using this
 have key:∀ i:Nat,(f.vs[i]?=none/\g.vs[i]?=none)\/∃ v u,f.vs[i]?=some v/\g.vs[i]?=some u/\v.now=u.now/\v.want=u.want/\v.rels=u.rels:=fun i=>by
  have:=hi i;cases h1:f.vs[i]? with
  |none=>rw[h1]at this;cases h2:g.vs[i]? with
   |none=>exact .inl ⟨rfl,rfl⟩
   |some u=>rw[h2]at this;cases this
  |some v=>rw[h1]at this;cases h2:g.vs[i]? with
   |none=>rw[h2]at this;cases this
   |some u=>rw[h2]at this;simp at this;exact .inr ⟨v,u,rfl,rfl,this.1,this.2.1,this.2.2⟩
 have e1:thB f=thB g:=funext fun p=>by unfold thB;rcases key (p / 3) with⟨h1,h2⟩|⟨v,u,h1,h2,h3,h4,h5⟩<;>rw[h1,h2];simp only[h3,h4,h5]
 have e2:fsB f=fsB g:=funext fun p=>by unfold fsB;rcases key (p / 3) with⟨h1,h2⟩|⟨v,u,h1,h2,h3,h4,h5⟩<;>rw[h1,h2];simp only[h3,h4,h5]
 have e3:wnB f=wnB g:=funext fun p=>by unfold wnB;rcases key (p / 3) with⟨h1,h2⟩|⟨v,u,h1,h2,h3,h4,h5⟩<;>rw[h1,h2];simp only[h3,h4,h5]
 have e4:plOf f=plOf g:=funext fun p=>by unfold plOf;rcases key (p / 3) with⟨h1,h2⟩|⟨v,u,h1,h2,h3,h4,h5⟩<;>rw[h1,h2];simp only[h3,h4,h5]
 have hl:f.ts.length=g.ts.length:=by simpa using congrArg List.length ht
 have e5:∀ T ps qs,cmpF T f.ts ps qs=cmpF T g.ts ps qs:=fun T ps qs=>by
  have:cpF T f.ts=cpF T g.ts:=funext fun p=>funext fun q=>by
   unfold cpF;have h0:∀ i:Nat,(f.ts.getD i 0 == 0)=(g.ts.getD i 0 == 0):=fun i=>by
    have:=congrArg (fun l=>l[i]?) ht;simp only[qf]at this;rw[xv,xv];cases h1:f.ts[i]?<;>cases h2:g.ts[i]?<;>rw[h1,h2]at this<;>simp at this ⊢
    rw[this]
   rw[hl,h0]
  unfold cmpF;rw[this]
 unfold zai;rw[e1,e2,e3,e4,hs];simp only[e5]
def zhp (L:List (TS SiD))(wn:List Bool)(k:Nat)(vl:List Nat)(ms:List (Int×Int)):Bool :=
 (match L[k]? with|some t=>decide (t.now.has=wn)|none=>false)&&((qm k).all (fun i=>match L[i]? with|some s=>!decide (s.now.has=wn)|none=>true)&&(decide (vl.getD 0 0=0)&&(decide (vl.getD ms.length 0=k)&&((qm ms.length).all (fun t=>decide (0<vl.getD (t+1) 0)&&(decide (vl.getD t 0<vl.getD (t+1) 0)&&match L[vl.getD (t+1) 0]? with|some a=>decide (a.fr=vl.getD t 0)|none=>false))&&decide (ms=wayL L (fun t=>vl.getD t 0) ms.length)))))
theorem zu8 {L:List (TS SiD)}{wn:List Bool}{k:Nat}{vl:List Nat}{ms:List (Int×Int)}(h:zhp L wn k vl ms=true):FirstAt L wn ms:=by
 unfold zhp at h;simp only[Bool.and_eq_true,decide_eq_true_eq,List.all_eq_true,qi]at h;obtain⟨h1,h2,h3,h4,h5,h6⟩:=h;cases hk:L[k]? with
 |none=>rw[hk]at h1;cases h1
 |some t =>
  rw[hk]at h1;refine⟨k,ms.length,fun t=>vl.getD t 0,t,hk,of_decide_eq_true h1,fun i s hi hs=>?_,⟨h3,h4,fun t ht=>?_⟩,h6⟩
  ·have:=h2 i hi;rw[hs]at this;simpa using this
  ·obtain⟨q1,q2,q3⟩:=h5 t ht;refine⟨q1,q2,?_⟩;cases ha:L[vl.getD (t+1) 0]? with
   |none=>rw[ha]at q3;cases q3
   |some a=>rw[ha]at q3;exact⟨a,rfl,of_decide_eq_true q3⟩
theorem yaak {f:zac}{c:ChD}{K k:Nat}{vl:List Nat}{ms:List (Int×Int)}(ho:ordB f=true)(hc:zai f=c)(hs:sndB c=true)(hK:(touS c K).length=K)(h5:K<=512)(h:zhp (touS c K) c.wnt k vl ms=true):PlanIs f 512 ms 0:=by
 have hok:c.ok:=by rw[<- hc];exact zf9 f
 have ht:=zg4 hok hK;unfold PlanIs;rw[if_pos ho,if_neg (by decide),hc,if_pos hs,<- ht,if_neg (by rw[hK];omega)];exact .inr ⟨zu8 h,rfl⟩
def sAi:ByteArray:=⟨#[123,97,58,105,125]⟩
def sAl:ByteArray:=⟨#[123,97,58,108,125]⟩
def sAlb:ByteArray:=⟨#[123,97,58,108,44,98,58,115,61,34,45,34,125]⟩
def sAib:ByteArray:=⟨#[123,97,58,105,44,98,58,115,125]⟩
def sAid:ByteArray:=⟨#[123,97,58,105,44,98,58,115,61,34,45,34,125]⟩
def sAB:ByteArray:=⟨#[60,97,98,62]⟩
def sCD:ByteArray:=⟨#[60,99,100,62]⟩
def yabt:ByteArray:=⟨#[60,97,98,99,100,62]⟩
def svW (a:Int):SvcD:=⟨a,0,1,[[⟨0,0,-1⟩],[⟨0,1,-1⟩]]⟩
def svR (b:Int):SvcD:=⟨b,0,1,[[⟨0,-1,0⟩],[⟨0,-1,1⟩]]⟩
def svR3 (b:Int):SvcD:=⟨b,0,1,[[⟨0,-1,0⟩],[⟨0,-1,1⟩],[⟨0,-1,2⟩]]⟩
def svO (a:Int):SvcD:=⟨a,0,2,[[⟨0,0,0⟩],[⟨0,0,1⟩],[⟨0,1,1⟩]]⟩
def tlF (c:Nat)(k a b:Int):zac:=match c with
 |0=>⟨[sAi,sAlb],[k],[svW a,svR b]⟩
 |1=>⟨[sAi,sAib],[k],[svW a,svR b]⟩
 |2=>⟨[sAi,sAid],[0],[svW a,svR b]⟩
 |3=>⟨[sAB,sCD,yabt],[k],[svW a,svR3 b]⟩
 |_=>⟨[sAi,sAl],[k],[svO a]⟩
def tlM (c:Nat):List (Int×Int):=match c with
 |0=>[(1,1),(0,1)]
 |1=>[(0,1),(1,1)]
 |2=>[(0,1),(1,1)]
 |3=>[(1,2),(0,1),(1,1)]
 |_=>[(0,1),(0,2)]
end
end Go.Proofs.YtkkekopomiehlabGreatDoor
