import Derived.Test.YtkkekopomiehlabGreatDoorESp2
set_option linter.unusedVariables false
set_option linter.unusedSimpArgs false
set_option maxHeartbeats 40000000
set_option maxRecDepth 4000
open ByteArray renaming size_append->xe,empty->xp,append_assoc->xq,empty_append->qp
open List renaming setIfInBounds_toArray->xf,getElem_cons_zero->xg,getElem_cons_succ->xh,getElem_toArray->xj,set_cons_zero->xm,set_cons_succ->xo,mem_of_getElem?->xy,not_mem_nil->xz,mem_cons->qe,range->qh,mem_range->qi,getD_eq_getElem?_getD->qj,getElem?_map->qm,getElem?_eq_getElem->qn,all_eq_true->qo,zip_cons_cons->qq,zip_nil_left->qu,size_toArray->qv,map_cons->qy,mem_map->ua,map_nil->uc
open Go.Act renaming put->xu
open Go.Op renaming stringOp->xv
open Bool renaming and_eq_true->qd
open Nat renaming le_refl->qf,sub_zero->q9,zero_le->ud
open Go.World renaming rangeAt_setCells_same->qg
open Int renaming cast_ofNat_Int->qk,natCast_add->qx
open Go.RowKit
namespace Go.Proofs.YtkkekopomiehlabGreatDoor
section
set_option maxRecDepth 16000
open Go.Lib (below_setCells)
theorem zsd {c:ChD}{K:Nat}(h:(touS c K).length<=K):∀ d,touS c (K+d)=touS c K
 |0=>rfl
 |d+1=>by
  have ih:=zsd h d;have:(touS c (K+d))[K+d]?=none:=by rw[ih];exact List.getElem?_eq_none (by omega)
  show tou (nxS c) (begD c) (K+d+1)=_;rw[tou];unfold touS at this;rw[this];exact ih
def zbo (c:ChD):List (TS SiD):=touS c 262144
theorem zg4 {c:ChD}(hc:c.ok){K:Nat}(h:(touS c K).length=K):touS c K=zbo c:=by
 have hl:=zg3 hc (k:=K) (by omega);have:=zsd (c:=c) (K:=K) (by omega) (262144-K);rw[show K+(262144-K)=262144 by omega]at this;exact this.symm
theorem zse {c:ChD}(hc:c.ok):zc7 (zbo c):=ze8 hc _
theorem zlw (g n cap:Nat)(wn:List Bool):(zao g n cap wn).toArray.all (·.oneCell')=true:=all_oneCell_toArray fun v hv=>by
 rcases qe.1 hv with rfl|hv
 ·rfl
 ·obtain⟨b,_,rfl⟩:=ua.1 hv;rfl
def FirstAt (L:List (TS SiD))(wn:List Bool)(ms:List (Int×Int)):Prop :=
 ∃ (k D:Nat) (v:Nat->Nat) (t:TS SiD),L[k]?=some t/\t.now.has=wn/\(∀ (i:Nat) (s:TS SiD),i<k->L[i]?=some s->s.now.has≠wn)/\Way L k D v/\ms=wayL L v D
def PlanIs (f:zac)(b:Int)(ms:List (Int×Int))(err:Int):Prop :=
 if ordB f=true then (if b<1 then ms=[]/\err=11 else if sndB (zai f)=true then (if b<(zbo (zai f)).length then ms=[]/\err=12 else ((∀ t∈zbo (zai f),t.now.has≠(zai f).wnt)/\ms=[]/\err=13)\/(FirstAt (zbo (zai f)) (zai f).wnt ms/\err=0)) else ms=[]/\err=10) else ms=[]/\err=8
def zqt (f:zac)(b:Int)(B:Nat)(e:Ending)(W:World):Prop :=
 ∃ (u:Value) (ms:List (Int×Int)) (err:Int),e=.returned (.tuple #[u,.int .i64 err])/\W.ownsRow B 62 2 u ms.length (mvC ms)/\PlanIs f b ms err
theorem zgu {f:zac}{b:Int}{B:Nat}{W:World}{err:Int}(h:PlanIs f b [] err):zqt f b B (.returned (.tuple #[.slice none 0 0,.int .i64 err])) W:=⟨_,[],err,rfl,World.ownsRow_nil W B _ _,h⟩
theorem yaez (L:List (TS SiD))(v:Nat->Nat)(D:Nat):(wayL L v D).length=D:=by simp[wayL]
theorem zth (c:ChD)(hc:c.ok)(w:World) :
  Calls Tryz.prog 49 #[.agg c.cells.toArray] w fun e W=>∃ g cap,e=.returned (.agg (zao g (zbo c).length cap c.wnt).toArray)/\W.rangeAt g 0 (stsC (zbo c))/\Below w.heap.size w W:=by
 refine(zti c hc w).mono ?_;rintro e W ⟨g,cap,K,rfl,hK,hr,hb⟩;have:=zg4 hc hK;rw[this]at hK hr;exact⟨g,cap,by rw[hK],hr,hb⟩
theorem yad5 {c:ChD}(hc:c.ok){K:Nat}(h:(touS c K).length=K):TInv (nxS c) (zbo c) (9*(zbo c).length):=by
 rw[<- zg4 hc h,h];exact(ziy (nxS c) (begD c) K (by show K<=(touS c K).length;omega)).1
theorem yad6 {c:ChD}(hc:c.ok):∃ K,(touS c K).length=K:=by
 have:∀ n,(∃ K,(touS c K).length=K)\/n<=(touS c n).length:=by
  intro n
  induction n with
  |zero=>exact .inr (ud _)
  |succ n ih =>
   rcases ih with h|h
   ·exact .inl h
   ·rcases Nat.lt_or_ge n (touS c n).length with hlt|hge
    ·right;obtain⟨a,ha⟩:∃ a,(touS c n)[n]?=some a:=⟨_,qn hlt⟩;exact(List.getElem?_eq_some_iff.1 (yad4 ha)).1
    ·exact .inl ⟨n,by omega⟩
 rcases this 262145 with h|h
 ·exact h
 ·have:=zg3 hc h;omega
theorem ztm (f:zac)(sa ta va:Option Addr)(sl sc tl tc vl vc:Nat)(b:Int)(w:World)(hf:FleetAt w sa sl sc ta tl tc va vl vc f) :
  Calls Tryz.prog 20 #[.agg #[.slice sa sl sc,.slice ta tl tc,.slice va vl vc],.int .i64 b] w fun e W=>zqt f b w.heap.size e W/\Below w.heap.size w W:=by
 have f0:=box3 w (.slice sa sl sc) (.slice ta tl tc) (.slice va vl vc) 26;have hio:=fun (W:World) (h:Below w.heap.size w W)=>zl6 f sa ta va sl sc tl tc vl vc W (hf.keep h);have hb0:=bel1 w (.cells #[.slice sa sl sc,.slice ta tl tc,.slice va vl vc] 26);cases hob:ordB f with
 |false =>
  rw[hob]at hio;have hp:PlanIs f b [] 8:=by unfold PlanIs;rw[hob];simp
  have HP:= zaa hp;clear hf hp hob
  go_enter Tryz.func20,Tryz.ntmps20
  go_wp2_with (first
   |(go_at_call 46;refine(hio _ hb0).mono ?_;rintro e w1 ⟨rfl,hb1⟩;have f1:=zaq hb1 f0))
  go_ret2
  exact⟨zgu HP.out,thn3 hb0 hb1⟩
 |true =>
  rw[hob]at hio;have ho:=zb3 hob;have hch:=fun (W:World) (h:Below w.heap.size w W)=>zl3 f ho sa ta va sl sc tl tc vl vc W (hf.keep h);have hok:=zf9 f;by_cases hbb:b<1
  ·have hp:PlanIs f b [] 11:=by unfold PlanIs;rw[if_pos hob,if_pos hbb];exact⟨rfl,rfl⟩
   have HP:= zaa hp;clear hf hp hob hch ho
   go_enter Tryz.func20,Tryz.ntmps20
   go_wp2_with (first
    |(go_at_call 46;refine(hio _ hb0).mono ?_;rintro e w1 ⟨rfl,hb1⟩;have f1:=zaq hb1 f0))
   go_ret2
   exact⟨zgu HP.out,thn3 hb0 hb1⟩
  have hsn:=fun (W:World)=>zmf (zai f) hok W;have hex:=fun (W:World)=>zth (zai f) hok W;have hi6:(Tryz.prog.info? 114).map (·.size)=some (zai f).cells.length:=by rw[hok.len];exact Tryz.infoCht
  have h16:(zai f).cells.toArray.all (·.oneCell')=true:=zd2 _;have hCl:=hok.len;obtain⟨K,hK⟩:=yad6 hok;have hsh:=fun (g cap:Nat) (W:World) (h:W.rangeAt g 0 (stsC (zbo (zai f))))=>ztu (nxS (zai f)) (zbo (zai f)) (zse hok) (by rw[<- zg4 hok hK];exact zg3 hok (by omega)) _ (yad5 hok hK) (zai f).wnt hok.wnt g cap W h;have htz:∀ g cap,(zao g (zbo (zai f)).length cap (zai f).wnt).toArray.size=10:=fun g cap=>by simp[zao,hok.wnt]
  have hit2:∀ g cap,(Tryz.prog.info? 118).map (·.size)=some (zao g (zbo (zai f)).length cap (zai f).wnt).toArray.size:=fun g cap=>by rw[htz];exact Tryz.infoTour
  have hit:∀ g cap,(Tryz.prog.info? 118).map (·.size)=some (zao g (zbo (zai f)).length cap (zai f).wnt).length:=fun g cap=>by have:=hit2 g cap;rwa [qv]at this
  have hLl:(zbo (zai f)).length<=262144:=by rw[<- zg4 hok hK];exact zg3 hok (by omega)
  have hPI:∀ (ms:List (Int×Int)) (err:Int),(if sndB (zai f)=true then (if b<(zbo (zai f)).length then ms=[]/\err=12 else ((∀ t∈zbo (zai f),t.now.has≠(zai f).wnt)/\ms=[]/\err=13)\/(FirstAt (zbo (zai f)) (zai f).wnt ms/\err=0)) else ms=[]/\err=10)->PlanIs f b ms err:=fun ms err h=>by unfold PlanIs;rw[if_pos hob,if_neg hbb];exact h
  have hso:=zse hok;clear hK hok ho hob;generalize hLdef:zbo (zai f)=L at hex hsh htz hit2 hit hLl hPI hso;clear hLdef;generalize (zai f)=C at hch hsn hex hi6 h16 hCl hsh htz hit2 hit hPI;have hi7:(Tryz.prog.info? 114).map (·.size)=some C.cells.toArray.size:=by rw[qv];exact hi6
  have hz:∀ W:World,(W.alloc (.cells Tryz.zeroCells114 114)).there W.heap.size 0 C.cells.toArray.size:=fun W=>by
   rw[show C.cells.toArray.size=189 by simpa using hCl,Tryz.zeroCht];have:=zcm (zal W (.cells ((List.replicate 189 false).map Value.bool).toArray 114));simpa using this
  have hrs:∀ W:World,(fun V:World=>V.rangeAt W.heap.size 0 C.cells/\Below W.heap.size W V) ((W.alloc (.cells Tryz.zeroCells114 114)).setCells W.heap.size 0 C.cells):=fun W=>⟨qg _ W.heap.size 0 C.cells (by simpa using hz W),below_setCells W.heap.size (qf _) _ _ (belS _ _)⟩;have htr:∀ (g cap:Nat) (W:World),W.rangeAt g 0 (stsC L)->∀ cs:Array Value,cs.size=10->(fun V:World=>V.rangeAt W.heap.size 0 (zao g L.length cap C.wnt)/\V.rangeAt g 0 (stsC L)/\Below W.heap.size W V) ((W.alloc (.cells cs 118)).setCells W.heap.size 0 (zao g L.length cap C.wnt)):=fun g cap W hr cs hcs=>by
   have hb:=below_setCells W.heap.size (qf _) (zao g L.length cap C.wnt) 0 (belS W (.cells cs 118));exact⟨qg _ _ _ _ (by simpa using zc8 (xs:=(zao g L.length cap C.wnt).toArray) (t:=118) (htz g cap) hcs),zaf hb hr,hb⟩
  have HZ:= zaa hz;have HRS:= zaa hrs;have HTR:= zaa htr;have HPI:= zaa hPI;clear hf hCl hz hrs htr hPI;generalize sndB C=y at hsn HPI;cases y with
  |false =>
   have HP:Hid (PlanIs f b [] 10):=HPI.out _ _ (by simp);clear HPI hex hsh
   go_enter Tryz.func20,Tryz.ntmps20
   go_wp2_with (first
    |(go_at_call 48;refine(hsn _).mono ?_;rintro e w4 ⟨rfl,hb4⟩;have rs4:=zaf hb4 rs3;have B4:Below w.heap.size w w4:=thn3 (thn3 (thn3 (thn3 hb0 hb1) hb2) hb3) hb4)
    |(have hq:=rs3;refine wpList_load_mid (w:=w3) rfl 114 _ rfl w2.heap.size 0 rfl C.cells _ rs3 Tryz.underlying114 rfl hi6 ?_;simp only[xu,xf,xm,xo,xj,xg,xh])
    |(have hq:=hz2;refine zcn rfl 114 _ _ rfl w2.heap.size 0 C.cells.toArray rfl rfl hz2 hi7 h16 (fun W=>W.rangeAt w2.heap.size 0 C.cells/\Below w2.heap.size w2 W) (HRS.out w2) ?_;rintro w3 ⟨rs3,hb3⟩;simp only[xu,xf,xm,xo,xj,xg,xh])
    |(go_at_call 47;refine(hch _ (thn3 hb0 hb1)).mono ?_;rintro e w2 ⟨rfl,hb2⟩;have hz2:=HZ.out w2)
    |(go_at_call 46;refine(hio _ hb0).mono ?_;rintro e w1 ⟨rfl,hb1⟩;have f1:=zaq hb1 f0))
   go_ret2
   exact⟨zgu HP.out,B4⟩
  |true =>
   by_cases hlen:b<L.length
   ·have HP:Hid (PlanIs f b [] 12):=HPI.out _ _ (by simp[hlen]);clear HPI hsh
    go_enter Tryz.func20,Tryz.ntmps20
    go_wp2_with (first
     |(go_at_call 50;refine(zjd _ _ _ _ _).mono ?_;rintro e w7 ⟨rfl,hb7⟩;have rt7:=zaf hb7 rt6;have rg7:=zaf hb7 rg6;have B7:=thn3 B6 hb7)
     |(have hq:=rt6;refine wpList_load_mid (w:=w6) rfl 118 _ rfl w5.heap.size 0 rfl (zao g L.length cap C.wnt) _ rt6 Tryz.underlying118 rfl (hit g cap) ?_;simp only[xu,xf,xm,xo,xj,xg,xh])
     |(have hq:=rg5;refine zcn rfl 118 _ _ rfl w5.heap.size 0 (zao g L.length cap C.wnt).toArray rfl rfl (zc8 (htz g cap) (by rfl)) (hit2 g cap) (zlw _ _ _ _) (fun W=>W.rangeAt w5.heap.size 0 (zao g L.length cap C.wnt)/\W.rangeAt g 0 (stsC L)/\Below w5.heap.size w5 W) (HTR.out g cap w5 rg5 _ (by rfl)) ?_;rintro w6 ⟨rt6,rg6,hb6⟩;have B6:=thn3 B5 hb6;simp only[xu,xf,xm,xo,xj,xg,xh])
     |(go_at_call 49;refine(hex _).mono ?_;rintro e w5 ⟨g,cap,rfl,rg5,hb5⟩;have B5:=thn3 B4 hb5)
     |(have hq:=rs4;refine wpList_load_mid (w:=w4) rfl 114 _ rfl w2.heap.size 0 rfl C.cells _ rs4 Tryz.underlying114 rfl hi6 ?_;simp only[xu,xf,xm,xo,xj,xg,xh])
     |(go_at_call 48;refine(hsn _).mono ?_;rintro e w4 ⟨rfl,hb4⟩;have rs4:=zaf hb4 rs3;have B4:Below w.heap.size w w4:=thn3 (thn3 (thn3 (thn3 hb0 hb1) hb2) hb3) hb4)
     |(have hq:=rs3;refine wpList_load_mid (w:=w3) rfl 114 _ rfl w2.heap.size 0 rfl C.cells _ rs3 Tryz.underlying114 rfl hi6 ?_;simp only[xu,xf,xm,xo,xj,xg,xh])
     |(have hq:=hz2;refine zcn rfl 114 _ _ rfl w2.heap.size 0 C.cells.toArray rfl rfl hz2 hi7 h16 (fun W=>W.rangeAt w2.heap.size 0 C.cells/\Below w2.heap.size w2 W) (HRS.out w2) ?_;rintro w3 ⟨rs3,hb3⟩;simp only[xu,xf,xm,xo,xj,xg,xh])
     |(go_at_call 47;refine(hch _ (thn3 hb0 hb1)).mono ?_;rintro e w2 ⟨rfl,hb2⟩;have hz2:=HZ.out w2)
     |(go_at_call 46;refine(hio _ hb0).mono ?_;rintro e w1 ⟨rfl,hb1⟩;have f1:=zaq hb1 f0))
    go_ret2
    exact⟨zgu HP.out,B7⟩
   ·have hlen':(L.length:Int)<=b:=by omega
    have HP:Hid (∀ ms err,(((∀ t∈L,t.now.has≠C.wnt)/\ms=[]/\err=13)\/(FirstAt L C.wnt ms/\err=0))->PlanIs f b ms err):=fun ms err h=>HPI.out _ _ (by rw[if_pos rfl,if_neg hlen];exact h);clear HPI hlen;by_cases hno:∀ t∈L,t.now.has≠C.wnt
    ·have hsh2:∀ (g cap:Nat) (W:World),W.rangeAt g 0 (stsC L)->Calls Tryz.prog 51 #[.agg (zao g L.length cap C.wnt).toArray] W fun e V=>e=.returned (.tuple #[.slice none 0 0,.bool false])/\Below W.heap.size W V:=fun g cap W h=>by
      refine(hsh g cap W h).mono ?_;rintro e V ⟨h1|⟨k,D,v,t,u,h1,h2,_⟩,hb⟩
      ·exact⟨h1.2,hb⟩
      ·exact absurd h2 (hno t (xy h1))
     have HP2:=(zaa (HP.out [] 13 (.inl ⟨hno,rfl,rfl⟩)));clear HP hsh hno
     go_enter Tryz.func20,Tryz.ntmps20
     go_wp2_with (first
      |(go_at_call 51;refine(hsh2 g cap _ rg7).mono ?_;rintro e w8 ⟨rfl,hb8⟩)
      |(have hq:=rt7;refine wpList_load_mid (w:=w7) rfl 118 _ rfl w5.heap.size 0 rfl (zao g L.length cap C.wnt) _ rt7 Tryz.underlying118 rfl (hit g cap) ?_;simp only[xu,xf,xm,xo,xj,xg,xh])
      |(go_at_call 50;refine(zjd _ _ _ _ _).mono ?_;rintro e w7 ⟨rfl,hb7⟩;have rt7:=zaf hb7 rt6;have rg7:=zaf hb7 rg6;have B7:=thn3 B6 hb7)
      |(have hq:=rt6;refine wpList_load_mid (w:=w6) rfl 118 _ rfl w5.heap.size 0 rfl (zao g L.length cap C.wnt) _ rt6 Tryz.underlying118 rfl (hit g cap) ?_;simp only[xu,xf,xm,xo,xj,xg,xh])
      |(have hq:=rg5;refine zcn rfl 118 _ _ rfl w5.heap.size 0 (zao g L.length cap C.wnt).toArray rfl rfl (zc8 (htz g cap) (by rfl)) (hit2 g cap) (zlw _ _ _ _) (fun W=>W.rangeAt w5.heap.size 0 (zao g L.length cap C.wnt)/\W.rangeAt g 0 (stsC L)/\Below w5.heap.size w5 W) (HTR.out g cap w5 rg5 _ (by rfl)) ?_;rintro w6 ⟨rt6,rg6,hb6⟩;have B6:=thn3 B5 hb6;simp only[xu,xf,xm,xo,xj,xg,xh])
      |(go_at_call 49;refine(hex _).mono ?_;rintro e w5 ⟨g,cap,rfl,rg5,hb5⟩;have B5:=thn3 B4 hb5)
      |(have hq:=rs4;refine wpList_load_mid (w:=w4) rfl 114 _ rfl w2.heap.size 0 rfl C.cells _ rs4 Tryz.underlying114 rfl hi6 ?_;simp only[xu,xf,xm,xo,xj,xg,xh])
      |(go_at_call 48;refine(hsn _).mono ?_;rintro e w4 ⟨rfl,hb4⟩;have rs4:=zaf hb4 rs3;have B4:Below w.heap.size w w4:=thn3 (thn3 (thn3 (thn3 hb0 hb1) hb2) hb3) hb4)
      |(have hq:=rs3;refine wpList_load_mid (w:=w3) rfl 114 _ rfl w2.heap.size 0 rfl C.cells _ rs3 Tryz.underlying114 rfl hi6 ?_;simp only[xu,xf,xm,xo,xj,xg,xh])
      |(have hq:=hz2;refine zcn rfl 114 _ _ rfl w2.heap.size 0 C.cells.toArray rfl rfl hz2 hi7 h16 (fun W=>W.rangeAt w2.heap.size 0 C.cells/\Below w2.heap.size w2 W) (HRS.out w2) ?_;rintro w3 ⟨rs3,hb3⟩;simp only[xu,xf,xm,xo,xj,xg,xh])
      |(go_at_call 47;refine(hch _ (thn3 hb0 hb1)).mono ?_;rintro e w2 ⟨rfl,hb2⟩;have hz2:=HZ.out w2)
      |(go_at_call 46;refine(hio _ hb0).mono ?_;rintro e w1 ⟨rfl,hb1⟩;have f1:=zaq hb1 f0))
     go_ret2
     exact⟨zgu HP2.out,thn3 B7 hb8⟩
    ·have hsh2:∀ (g cap:Nat) (W:World),W.rangeAt g 0 (stsC L)->Calls Tryz.prog 51 #[.agg (zao g L.length cap C.wnt).toArray] W fun e V=>∃ (u:Value) (ms:List (Int×Int)),e=.returned (.tuple #[u,.bool true])/\V.ownsRow W.heap.size 62 2 u ms.length (mvC ms)/\PlanIs f b ms 0/\Below W.heap.size W V:=fun g cap W h=>by
      refine(hsh g cap W h).mono ?_;rintro e V ⟨h1|⟨k,D,v,t,u,h1,h2,h3,h4,h5,h6⟩,hb⟩
      ·exact absurd h1.1 hno
      ·exact⟨u,wayL L v D,h5,by rw[yaez];exact h6,HP.out _ _ (.inr ⟨⟨k,D,v,t,h1,h2,h3,h4,rfl⟩,rfl⟩),hb⟩
     clear HP hsh hno
     go_enter Tryz.func20,Tryz.ntmps20
     go_wp2_with (first
      |(go_at_call 51;refine(hsh2 g cap _ rg7).mono ?_;rintro e w8 ⟨u,ms,rfl,hown8,hp8,hb8⟩;have hp8:= zaa hp8;have hown8:=(zaa hown8))
      |(have hq:=rt7;refine wpList_load_mid (w:=w7) rfl 118 _ rfl w5.heap.size 0 rfl (zao g L.length cap C.wnt) _ rt7 Tryz.underlying118 rfl (hit g cap) ?_;simp only[xu,xf,xm,xo,xj,xg,xh])
      |(go_at_call 50;refine(zjd _ _ _ _ _).mono ?_;rintro e w7 ⟨rfl,hb7⟩;have rt7:=zaf hb7 rt6;have rg7:=zaf hb7 rg6;have B7:=thn3 B6 hb7)
      |(have hq:=rt6;refine wpList_load_mid (w:=w6) rfl 118 _ rfl w5.heap.size 0 rfl (zao g L.length cap C.wnt) _ rt6 Tryz.underlying118 rfl (hit g cap) ?_;simp only[xu,xf,xm,xo,xj,xg,xh])
      |(have hq:=rg5;refine zcn rfl 118 _ _ rfl w5.heap.size 0 (zao g L.length cap C.wnt).toArray rfl rfl (zc8 (htz g cap) (by rfl)) (hit2 g cap) (zlw _ _ _ _) (fun W=>W.rangeAt w5.heap.size 0 (zao g L.length cap C.wnt)/\W.rangeAt g 0 (stsC L)/\Below w5.heap.size w5 W) (HTR.out g cap w5 rg5 _ (by rfl)) ?_;rintro w6 ⟨rt6,rg6,hb6⟩;have B6:=thn3 B5 hb6;simp only[xu,xf,xm,xo,xj,xg,xh])
      |(go_at_call 49;refine(hex _).mono ?_;rintro e w5 ⟨g,cap,rfl,rg5,hb5⟩;have B5:=thn3 B4 hb5)
      |(have hq:=rs4;refine wpList_load_mid (w:=w4) rfl 114 _ rfl w2.heap.size 0 rfl C.cells _ rs4 Tryz.underlying114 rfl hi6 ?_;simp only[xu,xf,xm,xo,xj,xg,xh])
      |(go_at_call 48;refine(hsn _).mono ?_;rintro e w4 ⟨rfl,hb4⟩;have rs4:=zaf hb4 rs3;have B4:Below w.heap.size w w4:=thn3 (thn3 (thn3 (thn3 hb0 hb1) hb2) hb3) hb4)
      |(have hq:=rs3;refine wpList_load_mid (w:=w3) rfl 114 _ rfl w2.heap.size 0 rfl C.cells _ rs3 Tryz.underlying114 rfl hi6 ?_;simp only[xu,xf,xm,xo,xj,xg,xh])
      |(have hq:=hz2;refine zcn rfl 114 _ _ rfl w2.heap.size 0 C.cells.toArray rfl rfl hz2 hi7 h16 (fun W=>W.rangeAt w2.heap.size 0 C.cells/\Below w2.heap.size w2 W) (HRS.out w2) ?_;rintro w3 ⟨rs3,hb3⟩;simp only[xu,xf,xm,xo,xj,xg,xh])
      |(go_at_call 47;refine(hch _ (thn3 hb0 hb1)).mono ?_;rintro e w2 ⟨rfl,hb2⟩;have hz2:=HZ.out w2)
      |(go_at_call 46;refine(hio _ hb0).mono ?_;rintro e w1 ⟨rfl,hb1⟩;have f1:=zaq hb1 f0))
     go_ret2
     exact⟨⟨u,ms,0,rfl,hown8.out.mono B7.size,hp8.out⟩,thn3 B7 hb8⟩
end
section
theorem Way.key {α:Type}{L:List (TS α)}{g D D':Nat}{v v':Nat->Nat}(h:Way L g D v)(h':Way L g D' v'):∀ d,d<=D->d<=D'/\v (D-d)=v' (D'-d)
 |0,_=>⟨ud _,by rw[q9,q9,h.last,h'.last]⟩
 |d+1,hd=>by
  obtain⟨h1,h2⟩:=Way.key h h' d (by omega);obtain⟨p1,p2,a,ha,hf⟩:=h.step (D-(d+1)) (by omega);rw[show D-(d+1)+1=D-d by omega]at p1 p2 ha;have hne:D'-d≠0:=fun e=>by rw[e,h'.zero]at h2;omega
  obtain⟨q1,q2,b,hb,hg⟩:=h'.step (D'-(d+1)) (by omega);rw[show D'-(d+1)+1=D'-d by omega,<- h2,ha]at hb;cases hb;exact⟨by omega,by rw[<- hf,<- hg]⟩
theorem Way.uniq {α:Type}{L:List (TS α)}{g D D':Nat}{v v':Nat->Nat}(h:Way L g D v)(h':Way L g D' v'):D=D'/\∀ t,t<=D->v t=v' t:=by
 have h1:=(Way.key h h' D (qf _)).1;have h2:=(Way.key h' h D' (qf _)).1;obtain rfl:D=D':=by omega
 refine⟨rfl,fun t ht=>?_⟩;have:=(Way.key h h' (D-t) (by omega)).2
 rwa [show D-(D-t)=t by omega]at this
theorem yaey {L:List (TS SiD)}{v v':Nat->Nat}{D:Nat}(h:∀ t,t<=D->v t=v' t):wayL L v D=wayL L v' D:=by
 unfold wayL;refine List.map_congr_left fun t ht=>?_;have:=qi.1 ht;unfold wayM;rw[h (t+1) (by omega)]
theorem FirstAt.uniq {L:List (TS SiD)}{wn:List Bool}{ms ms':List (Int×Int)}(h:FirstAt L wn ms)(h':FirstAt L wn ms'):ms=ms':=by
 obtain⟨k,D,v,t,hk,ht,hf,hw,rfl⟩:=h;obtain⟨k',D',v',t',hk',ht',hf',hw',rfl⟩:=h';have e1:¬ k<k':=fun hc=>hf' k t hc hk ht;have e2:¬ k'<k:=fun hc=>hf k' t' hc hk' ht';obtain rfl:k=k':=by omega
 obtain⟨rfl,he⟩:=hw.uniq hw';exact yaey he
theorem FirstAt.some {L:List (TS SiD)}{wn:List Bool}{ms:List (Int×Int)}(h:FirstAt L wn ms)(hn:∀ t∈L,t.now.has≠wn):False:=by
 obtain⟨k,D,v,t,hk,ht,_⟩:=h;exact hn t (xy hk) ht
theorem PlanIs.uniq {f:zac}{b:Int}{ms ms':List (Int×Int)}{e e':Int}(h:PlanIs f b ms e)(h':PlanIs f b ms' e'):ms=ms'/\e=e':=by
 unfold PlanIs at h h';by_cases h1:ordB f=true
 ·rw[if_pos h1]at h h';by_cases h2:b<1
  ·rw[if_pos h2]at h h';exact⟨h.1.trans h'.1.symm,h.2.trans h'.2.symm⟩
  ·rw[if_neg h2]at h h';by_cases h3:sndB (zai f)=true
   ·rw[if_pos h3]at h h';by_cases h4:b<(zbo (zai f)).length
    ·rw[if_pos h4]at h h';exact⟨h.1.trans h'.1.symm,h.2.trans h'.2.symm⟩
    ·rw[if_neg h4]at h h';rcases h with⟨hn,h5,h6⟩|⟨h5,h6⟩
     ·rcases h' with⟨_,h7,h8⟩|⟨h7,_⟩
      ·exact⟨h5.trans h7.symm,h6.trans h8.symm⟩
      ·exact(h7.some hn).elim
     ·rcases h' with⟨hn,_,_⟩|⟨h7,h8⟩
      ·exact(h5.some hn).elim
      ·exact⟨h5.uniq h7,h6.trans h8.symm⟩
   ·rw[if_neg h3]at h h';exact⟨h.1.trans h'.1.symm,h.2.trans h'.2.symm⟩
 ·rw[if_neg h1]at h h';exact⟨h.1.trans h'.1.symm,h.2.trans h'.2.symm⟩
end
section
set_option maxRecDepth 100000
theorem zga {f g:zac}(hs:f.ss=g.ss)(hv:f.vs.map (fun (v:SvcD)=>(v.now,v.want,v.rels))=g.vs.map (fun (v:SvcD)=>(v.now,v.want,v.rels)))(ht:f.ts.map (fun (k:Int)=>k == 0)=g.ts.map (fun (k:Int)=>k == 0)):zai f=zai g:=by
 have hi:∀ i:Nat,(f.vs[i]?).map (fun (v:SvcD)=>(v.now,v.want,v.rels))=(g.vs[i]?).map (fun (v:SvcD)=>(v.now,v.want,v.rels)):=fun (i:Nat)=>by
  have:=congrArg (fun l=>l[i]?) hv;simpa[qm]using this
 have key:∀ i:Nat,(f.vs[i]?=none/\g.vs[i]?=none)\/∃ v u,f.vs[i]?=some v/\g.vs[i]?=some u/\v.now=u.now/\v.want=u.want/\v.rels=u.rels:=fun i=>by
  have:=hi i;cases h1:f.vs[i]? with
  |none=>rw[h1]at this;cases h2:g.vs[i]? with
   |none=>exact .inl ⟨rfl,rfl⟩
   |some u=>rw[h2]at this;cases this
  |some v=>rw[h1]at this;cases h2:g.vs[i]? with
   |none=>rw[h2]at this;cases this
   |some u=>rw[h2]at this;simp at this;exact .inr ⟨v,u,rfl,rfl,this.1,this.2.1,this.2.2⟩
 have e1:thB f=thB g:=funext fun p=>by unfold thB;rcases key (p / 3) with⟨h1,h2⟩|⟨v,u,h1,h2,h3,h4,h5⟩<;>rw[h1,h2];simp only[h3,h4,h5]
 have e2:fsB f=fsB g:=funext fun p=>by unfold fsB;rcases key (p / 3) with⟨h1,h2⟩|⟨v,u,h1,h2,h3,h4,h5⟩<;>rw[h1,h2];simp only[h3,h4,h5]
 have e3:wnB f=wnB g:=funext fun p=>by unfold wnB;rcases key (p / 3) with⟨h1,h2⟩|⟨v,u,h1,h2,h3,h4,h5⟩<;>rw[h1,h2];simp only[h3,h4,h5]
 have e4:plOf f=plOf g:=funext fun p=>by unfold plOf;rcases key (p / 3) with⟨h1,h2⟩|⟨v,u,h1,h2,h3,h4,h5⟩<;>rw[h1,h2];simp only[h3,h4,h5]
 have hl:f.ts.length=g.ts.length:=by simpa using congrArg List.length ht
 have e5:∀ T ps qs,cmpF T f.ts ps qs=cmpF T g.ts ps qs:=fun T ps qs=>by
  have:cpF T f.ts=cpF T g.ts:=funext fun p=>funext fun q=>by
   unfold cpF;have h0:∀ i:Nat,(f.ts.getD i 0 == 0)=(g.ts.getD i 0 == 0):=fun i=>by
    have:=congrArg (fun l=>l[i]?) ht;simp only[qm]at this;rw[qj,qj];cases h1:f.ts[i]?<;>cases h2:g.ts[i]?<;>rw[h1,h2]at this<;>simp at this ⊢
    rw[this]
   rw[hl,h0]
  unfold cmpF;rw[this]
 unfold zai;rw[e1,e2,e3,e4,hs];simp only[e5]
def zhp (L:List (TS SiD))(wn:List Bool)(k:Nat)(vl:List Nat)(ms:List (Int×Int)):Bool :=
 (match L[k]? with|some t=>decide (t.now.has=wn)|none=>false)&&((qh k).all (fun i=>match L[i]? with|some s=>!decide (s.now.has=wn)|none=>true)&&(decide (vl.getD 0 0=0)&&(decide (vl.getD ms.length 0=k)&&((qh ms.length).all (fun t=>decide (0<vl.getD (t+1) 0)&&(decide (vl.getD t 0<vl.getD (t+1) 0)&&match L[vl.getD (t+1) 0]? with|some a=>decide (a.fr=vl.getD t 0)|none=>false))&&decide (ms=wayL L (fun t=>vl.getD t 0) ms.length)))))
theorem zu8 {L:List (TS SiD)}{wn:List Bool}{k:Nat}{vl:List Nat}{ms:List (Int×Int)}(h:zhp L wn k vl ms=true):FirstAt L wn ms:=by
 unfold zhp at h;simp only[qd,decide_eq_true_eq,qo,qi]at h;obtain⟨h1,h2,h3,h4,h5,h6⟩:=h;cases hk:L[k]? with
 |none=>rw[hk]at h1;cases h1
 |some t =>
  rw[hk]at h1;refine⟨k,ms.length,fun t=>vl.getD t 0,t,hk,of_decide_eq_true h1,fun i s hi hs=>?_,⟨h3,h4,fun t ht=>?_⟩,h6⟩
  ·have:=h2 i hi;rw[hs]at this;simpa using this
  ·obtain⟨q1,q2,q3⟩:=h5 t ht;refine⟨q1,q2,?_⟩;cases ha:L[vl.getD (t+1) 0]? with
   |none=>rw[ha]at q3;cases q3
   |some a=>rw[ha]at q3;exact⟨a,rfl,of_decide_eq_true q3⟩
theorem yaak {f:zac}{c:ChD}{K k:Nat}{vl:List Nat}{ms:List (Int×Int)}(ho:ordB f=true)(hc:zai f=c)(hs:sndB c=true)(hK:(touS c K).length=K)(h5:K<=512)(h:zhp (touS c K) c.wnt k vl ms=true):PlanIs f 512 ms 0:=by
 have hok:c.ok:=by rw[<- hc];exact zf9 f
 have ht:=zg4 hok hK;unfold PlanIs;rw[if_pos ho,if_neg (by decide),hc,if_pos hs,<- ht,if_neg (by rw[hK];omega)];exact .inr ⟨zu8 h,rfl⟩
def sAi:ByteArray:=⟨#[123,97,58,105,125]⟩
def sAl:ByteArray:=⟨#[123,97,58,108,125]⟩
def sAlb:ByteArray:=⟨#[123,97,58,108,44,98,58,115,61,34,45,34,125]⟩
def sAib:ByteArray:=⟨#[123,97,58,105,44,98,58,115,125]⟩
def sAid:ByteArray:=⟨#[123,97,58,105,44,98,58,115,61,34,45,34,125]⟩
def sAB:ByteArray:=⟨#[60,97,98,62]⟩
def sCD:ByteArray:=⟨#[60,99,100,62]⟩
def yabt:ByteArray:=⟨#[60,97,98,99,100,62]⟩
def svW (a:Int):SvcD:=⟨a,0,1,[[⟨0,0,-1⟩],[⟨0,1,-1⟩]]⟩
def svR (b:Int):SvcD:=⟨b,0,1,[[⟨0,-1,0⟩],[⟨0,-1,1⟩]]⟩
def svR3 (b:Int):SvcD:=⟨b,0,1,[[⟨0,-1,0⟩],[⟨0,-1,1⟩],[⟨0,-1,2⟩]]⟩
def svO (a:Int):SvcD:=⟨a,0,2,[[⟨0,0,0⟩],[⟨0,0,1⟩],[⟨0,1,1⟩]]⟩
def tlF (c:Nat)(k a b:Int):zac:=match c with
 |0=>⟨[sAi,sAlb],[k],[svW a,svR b]⟩
 |1=>⟨[sAi,sAib],[k],[svW a,svR b]⟩
 |2=>⟨[sAi,sAid],[0],[svW a,svR b]⟩
 |3=>⟨[sAB,sCD,yabt],[k],[svW a,svR3 b]⟩
 |_=>⟨[sAi,sAl],[k],[svO a]⟩
def tlM (c:Nat):List (Int×Int):=match c with
 |0=>[(1,1),(0,1)]
 |1=>[(0,1),(1,1)]
 |2=>[(0,1),(1,1)]
 |3=>[(1,2),(0,1),(1,1)]
 |_=>[(0,1),(0,2)]
end
section
set_option maxRecDepth 100000
def tlK (c:Nat):Nat:=match c with
 |0=>6
 |1=>6
 |2=>9
 |3=>10
 |_=>6
def tlG (c:Nat):Nat:=match c with
 |0=>2
 |1=>3
 |2=>4
 |3=>5
 |_=>3
def tlV (c:Nat):List Nat:=match c with
 |0=>[0,1,2]
 |1=>[0,1,3]
 |2=>[0,1,4]
 |3=>[0,1,2,5]
 |_=>[0,1,3]
def tlB (c:Nat)(C:ChD):Bool:=sndB C&&(decide ((touS C (tlK c)).length=tlK c)&&(zhp (touS C (tlK c)) C.wnt (tlG c) (tlV c) (tlM c)&&(amB C (tlM c)&&decide (sfN C (begD C) (tlM c)=(tlM c).length))))
theorem yads:tlB 0 (zai (tlF 0 1 1 1))=true:=by decide +kernel
theorem yadt:tlB 1 (zai (tlF 1 1 1 1))=true:=by decide +kernel
theorem yadu:tlB 2 (zai (tlF 2 1 1 1))=true:=by decide +kernel
theorem yadv:tlB 3 (zai (tlF 3 1 1 1))=true:=by decide +kernel
theorem yadw:tlB 4 (zai (tlF 4 1 1 1))=true:=by decide +kernel
theorem yady:((qh 5).all fun c=>(qh 6).all fun k=>(qh 3).all fun a=>(qh 3).all fun b=>ordB (tlF c ((k+1:Nat):Int) ((a+1:Nat):Int) ((b+1:Nat):Int)))=true:=by decide +kernel
theorem yadz {c:Nat}(hc:c<5){k a b:Int}(hk:1<=k/\k<=6)(ha:1<=a/\a<=3)(hb:1<=b/\b<=3):ordB (tlF c k a b)=true:=by
 have h:=yady;simp only[qo,qi]at h;have:=h c hc (k-1).toNat (by omega) (a-1).toNat (by omega) (b-1).toNat (by omega);rw[show (((k-1).toNat+1:Nat):Int)=k by omega,show (((a-1).toNat+1:Nat):Int)=a by omega,show (((b-1).toNat+1:Nat):Int)=b by omega]at this;exact this
theorem yadx {c:Nat}(hc:c<5){k a b:Int}(hk:1<=k):zai (tlF c k a b)=zai (tlF c 1 1 1):=by
 have h0:(k == 0)=false:=by simp;omega
 have:c=0\/c=1\/c=2\/c=3\/c=4:=by omega
 rcases this with rfl|rfl|rfl|rfl|rfl
 iterate 2
  ·exact zga rfl rfl (by show [k == 0]=[false];rw[h0])
 ·exact zga rfl rfl rfl
 iterate 2
  ·exact zga rfl rfl (by show [k == 0]=[false];rw[h0])
theorem yadr {c:Nat}(hc:c<5){k a b:Int}(hk:1<=k):tlB c (zai (tlF c k a b))=true:=by
 rw[yadx hc hk];have:c=0\/c=1\/c=2\/c=3\/c=4:=by omega
 rcases this with rfl|rfl|rfl|rfl|rfl
 ·exact yads
 ·exact yadt
 ·exact yadu
 ·exact yadv
 ·exact yadw
theorem yadp (c:Nat):tlK c<=512:=by unfold tlK;split<;>omega
theorem yadq (c:Nat):(tlM c).length<=3:=by unfold tlM;split<;>simp
theorem yad0 {c:Nat}(hc:c<5){k a b:Int}(hk:1<=k/\k<=6)(ha:1<=a/\a<=3)(hb:1<=b/\b<=3){f:zac}(hf:f=tlF c k a b):PlanIs f 512 (tlM c) 0/\zbd f (tlM c)=(((tlM c).length:Int),0):=by
 have h1:=yadz hc hk ha hb;have h2:=yadr hc (k:=k) (a:=a) (b:=b) hk.1;rw[<- hf]at h1 h2;clear hf;unfold tlB at h2;simp only[qd,decide_eq_true_eq]at h2;obtain⟨q1,q2,q3,q4,q5⟩:=h2;refine⟨yaak h1 rfl q1 q2 (yadp c) q3,?_⟩;unfold zbd;rw[if_pos h1,if_pos q4,if_pos q1,q5]
end
section
structure Tlf (f:zac):Prop where
 ts:∃ k,f.ts=[k]/\0<=k/\k<=6
 pin:∀ v∈f.vs,∀ ps∈v.rels,∃ p:PinD,ps=[p]/\p.t=0
theorem tl_f {c:Nat}{k a b:Int}(hk:1<=k/\k<=6):Tlf (tlF c k a b):=by
 unfold tlF;split
 all_goals
  refine⟨?_,?_⟩
  ·first
    |exact⟨k,rfl,by omega,by omega⟩
    |exact⟨0,rfl,by omega,by omega⟩
  ·intro v hv ps hps;simp only[qe,xz,or_false,svW,svR,svR3,svO]at hv
   first
    |(rcases hv with rfl|rfl<;>simp only[qe,xz,or_false]at hps<;>first|(rcases hps with rfl|rfl<;>exact⟨_,rfl,rfl⟩)|(rcases hps with rfl|rfl|rfl<;>exact⟨_,rfl,rfl⟩))
    |(subst hv;simp only[qe,xz,or_false]at hps;rcases hps with rfl|rfl|rfl<;>exact⟨_,rfl,rfl⟩)
theorem zqm {p:PinD}(h:p.t=0):pinO [p] (0:Nat)=p:=by
 unfold pinO;have:(p.t == ((0:Nat):Int))=true:=by rw[h];rfl
 simp only[List.find?,this]
theorem zqo {ns nt:Nat}{p:PinD}(h:za7 ns nt [p]=true):(p.w=-1\/numB p.w ns=true)/\(p.r=-1\/numB p.r ns=true):=by
 unfold za7 at h;simp only[qd,qo,qi]at h;have h0:=h.2 0 (by simp);unfold pinK at h0;simp only[List.getElem?_cons_zero,qd]at h0;have h1:=h0.1;unfold pinB at h1;simp only[qd,Bool.or_eq_true,beq_iff_eq]at h1;exact⟨h1.1.2,h1.2⟩
theorem zyp {k:Int}{n:Nat}(h:numB k n=true):0<=k:=by
 unfold numB at h;simp at h;omega
variable {w0 w W:World}{L:Nat->Nat}{gb r:Nat}{b:zav}{f:zac}{ms:List (Int×Int)}{N:Int}
theorem yaer (hT:Tab w0)(s:Nat)(v:SvcD)(i:Nat)(w:World)(hv:f.vs[s]?=some v)(hi:(i:Int)<v.size)(h:Std w0 gb r f ms false N w):VwOk w gb s i:=by
 obtain⟨b,L,hB,hI,rfl,rfl,hta⟩:=h;have ho:=zb3 hI.sf.ob;have h4:=ho.ts4;exact yaeu s i hta (by omega) (fun t ht W hb=>hI.sees hv hi ht hT (hB.keep hb)) hB
theorem BookE.s (h:BookE w0 w L gb r b):∃ sa sc,∀ W,Below w.heap.size w W->W.cell? ⟨gb,0,none⟩=some (.slice sa b.f.ss.length sc)/\W.cell? ⟨gb,4,none⟩=some (.bool b.tale)/\W.cell? ⟨gb,5,none⟩=some (.pointer (some ⟨r,0,none⟩))/\StrsAt W sa b.f.ss:=by
 obtain⟨sa,ta,va,ma,sl,sc,tl,tc,vl,vc,mc,nv,h⟩:=h;refine⟨sa,sc,fun W hb=>?_⟩;have h':=h.keep hb;refine⟨?_,h'.row.cell rfl,h'.row.cell rfl,(h'.flt.keep h'.bel).s4⟩;have:=h'.row.cell (j:=0) rfl;rw[h'.flt.s1]at this;exact this
theorem yaes (hT:Tab w0)(htl:Tlf f)(hN:N<=2100000)(s:Nat)(v:SvcD)(i:Nat)(w:World)(hv:f.vs[s]?=some v)(hi:(i:Int)<v.size)(h:Std w0 gb r f ms true N w):VwOk w gb s i:=by
 obtain⟨b,L,hB,hI,rfl,rfl,hta⟩:=h;have ho:=zb3 hI.sf.ob;have hv3:=ho.vs3;have hs8:=ho.ss8;obtain⟨V,y,a,ps,hA⟩:=hI.inst hv hi;obtain⟨p,rfl,hpt⟩:=htl.pin v (xy hv) ps (xy hA.pv);obtain⟨k,hts,hk0,hk6⟩:=htl.ts;have hpo:=zqm hpt;obtain⟨sa,sc,hx⟩:=hB.s;have htl1:b.P.ts.length=1:=by rw[hI.tl,hts];rfl
 obtain⟨T,hTt⟩:∃ T,b.P.ts[0]?=some T:=⟨b.P.ts[0]'(by omega),qn _⟩;have c1:∀ W,Below w.heap.size w W->Calls Tryz.prog 63 #[.pointer (some ⟨gb,0,none⟩),.int .i64 s,.int .i64 i] W fun e W'=>e=.returned (.tuple #[.int .i64 p.w,.int .i64 p.r,.bool true])/\Below W.heap.size W W':=fun W hb=>zm2 s i a hv (by omega) hA.hb (by rw[hA.ig];exact hA.hr) hA.pv rfl (hB.keep hb);rcases (zqo hA.pb).2 with hr|hr
 ·refine yaet (r:=r) s i p.w p.r (by omega) (fun W hb=>?_) c1 (fun W hb=>?_)
  ·obtain⟨_,h2,h3,_⟩:=hx W hb;exact⟨by rw[h2,hta],h3⟩
  ·have hn:numB (pinO [p] (0:Nat)).r b.P.ss.length=false:=by
    rw[hpo,hr];rfl
   exact zmj s i a V y [p] 0 (by omega) hA.hV hA.hy hA.hr hA.hps (by simp) hn ((hB.keep hb).tab hT).2
 ·have hr':numB (pinO [p] (0:Nat)).r b.f.ss.length=true:=by rw[hpo];exact hr
  obtain⟨rN,xr,er,hxr,esr⟩:=zgy hr;obtain⟨RT,hRT⟩:=hI.reads hv hA hTt hr';rw[hpo]at hRT;obtain⟨nt1,nt2⟩:=hI.nt hta T hTt;have hkT:T.keep=k:=by
   have:=hI.kp;rw[hts]at this;have h2:=congrArg (fun l=>l[0]?) this;simp only[qm,hTt]at h2;simpa using h2
  rw[hkT]at nt1;have hl12:=(hI.bn.rc 0 T hTt).1;have hlen:T.recs.length=(b.notes.filter (zay k b.ti)).length:=by rw[nt1,List.length_map]
  obtain⟨sb,so,hsa⟩:∃ sb so,sa=some ⟨sb,so,none⟩:=by
   obtain⟨_,_,_,hst⟩:=hx w (Below.refl _ _);obtain⟨sb,so,q,_⟩:=hst rN xr hxr;exact⟨sb,so,q⟩
  subst hsa;rw[er]at c1;refine yaev (r:=r) s i p.w rN b.f.ss sb so sc (b.notes.filter (zay k b.ti)) (fun x=>RT (zcy b.f.ss x)) xr hxr (by omega) (by omega) (fun W hb=>?_) (fun x hx'=>?_) (fun W hb=>((hB.keep hb).tab hT).1) c1 (fun W hb=>?_) (fun W hb=>?_)
  ·obtain⟨h1,h2,h3,h4⟩:=hx W hb;exact⟨by rw[h2,hta],h3,h1,h4⟩
  ·have hm:zcy b.f.ss x∈T.recs:=by rw[nt1];exact ua.2 ⟨x,hx',rfl⟩
   have hR:=hRT _ hm;obtain⟨y,s1,e1,e2,e3⟩:=zgy (nt2 x (List.mem_filter.1 hx').1).2;refine⟨y,s1,e1,e2,?_⟩;have h1:(zcy b.f.ss x).sc=s1:=e3;rw[h1,esr]at hR;exact hR
  ·refine(zmk s i a V y [p] 0 T RT hTt hl12 hA.hV hA.hy hA.hr hA.hps (by simp) (by rw[hI.ss];exact hr') (fun x hx' W' hb'=>?_) ((hB.keep hb).tab hT).2).mono ?_
   ·rw[hI.ss,hpo];refine((hRT x hx').2 W' (Tab.keep hb' ((hB.keep hb).tab hT).1)).mono ?_;rintro e W'' ⟨rfl,hb''⟩;exact⟨⟨0,rfl⟩,hb''⟩
   ·rintro e W' ⟨u,rfl,hO,hb'⟩;refine⟨u,rfl,?_,hb'⟩;rw[<- hlen];have:(T.recs.map fun x=>Value.string (RT x))=((b.notes.filter (zay k b.ti)).map fun x=>Value.string (RT (zcy b.f.ss x))):=by
     rw[nt1,List.map_map];rfl
    rw[<- this];exact hO
  ·have hnn:=hI.nn;have hti:=hI.bn.ti;refine zqx k (by rw[hts];rfl) ⟨hk0,hk6⟩ (by rw[hI.ti];omega) (by omega) (fun x hx'=>(nt2 x hx').1) (hB.keep hb)
end
section
variable {w0 w W:World}{L:Nat->Nat}{gb r:Nat}{b:zav}
theorem yaau {x:StD}{Q:World->Prop}{v:SvcD}(hta:b.tale=false)(ha:-9223372036854775808<=x.a/\x.a<=9223372036854775807)(hb:-9223372036854775808<=x.b/\x.b<=9223372036854775807)(hl0:0<b.f.vs.length)(hl:b.f.vs.length<=2000000)(hv:b.f.vs[pckN x.a b.f.vs.length]?=some v){z:Nat}(hvz:v.size=z)(hz0:0<z)(hz:z<=2000000)(h:BookE w0 w L gb r b)
  (c3:∀ W,Below w.heap.size w W->Calls Tryz.prog 94 #[.pointer (some ⟨r,0,none⟩),.int .i64 (pckN x.a b.f.vs.length:Nat),.int .i64 (pckN x.b z:Nat),.int .i64 x.c,.string x.s] W fun e W=>(∃ n,e=.returned (.int .i64 n))/\Q W) :
  Calls Tryz.prog 60 #[.pointer (some ⟨gb,0,none⟩),stV x] w fun e W=>e=.returned (.bool true)/\Q W:=by
 have c1:=fun W=>zcj x.a b.f.vs.length ha hl0 hl W;have c2:=fun W=>zcj x.b z hb hz0 hz W;have hlt:=h.y.2.2.2;obtain⟨va,ma,vc,mc,hV⟩:=h.v;have hsl:=zbn x.a hl0;obtain⟨bk,o,ra,rl,rc,hva,_⟩:=(hV w (Below.refl _ _)).1.vs _ v hv;subst hva;have HV:Hid (∀ W,Below w.heap.size w W->W.cell? ⟨gb,2,none⟩=some (.slice (some ⟨bk,o,none⟩) b.f.vs.length vc)/\W.cell? ⟨bk,o+pckN x.a b.f.vs.length*4,none⟩=some (.int .i64 z)/\W.cell? ⟨gb,4,none⟩=some (.bool false)/\W.cell? ⟨gb,5,none⟩=some (.pointer (some ⟨r,0,none⟩))):=by
  show ∀ _,_;intro W hbb;refine⟨(hV W hbb).1.x2,?_,by rw[<- hta];exact(h.keep hbb).ta,(hV W hbb).1.x5⟩;obtain⟨bk',o',ra',rl',rc',hq,d0,_⟩:=(hV W hbb).1.vs _ v hv;obtain⟨rfl,rfl⟩:bk=bk'/\o=o':=by simpa using hq
  rw[<- hvz];exact d0
 clear hV h hv hvz hta;generalize pckN x.a b.f.vs.length=s at *;generalize pckN x.b z=i at *;generalize b.f.vs.length=n at *;have hs0 := znn s;have hs1:(s:Int)<(n:Int):=by omega
 unfold stV;clear ha hb;obtain⟨xk,xa,xb,xc,xs⟩:=x;simp only at *;obtain⟨w1,hw1⟩:∃ w1,w1=w.alloc (.cells #[.int .i64 xk,.int .i64 xa,.int .i64 xb,.int .i64 xc,.string xs] 66):=⟨_,rfl⟩;have HB1:Hid (Below w.heap.size w w1):=by rw[hw1];exact bel1 _ _
 have R1:RowIs w1 w.heap.size 66 [.int .i64 xk,.int .i64 xa,.int .i64 xb,.int .i64 xc,.string xs]:=by rw[hw1];exact zal _ _
 have m1:w1.cell? ⟨w.heap.size,1,none⟩=some (.int .i64 xa):=R1.cell (j:=1) rfl;have m2:w1.cell? ⟨w.heap.size,2,none⟩=some (.int .i64 xb):=R1.cell (j:=2) rfl;have m3:w1.cell? ⟨w.heap.size,3,none⟩=some (.int .i64 xc):=R1.cell (j:=3) rfl;have m4:w1.cell? ⟨w.heap.size,4,none⟩=some (.string xs):=R1.cell (j:=4) rfl;clear R1;obtain⟨n2,n3,n4,n5⟩:=HV.out w1 HB1.out;have HW:=zaa hw1;clear hw1
 go_enter Tryz.func60,Tryz.ntmps60
 go_wp2_with fail
 rw[<- HW.out];clear HW;generalize w.heap.size=gx at *
 go_quiet ((go_at_call 42;exact Calls.quiet_of_same ((c1 _).mono fun e W q=>⟨q.1,q.2.symm⟩)))
 go_wp2_with fail
 have HB5:Hid (Below gx w (w1.drewN nq)):=⟨HB1.out.os,HB1.out.tape,HB1.out.output,HB1.out.size,HB1.out.block⟩;have p2:(w1.drewN nq).cell? ⟨gx,2,none⟩=some (.int .i64 xb):=m2;have p3:(w1.drewN nq).cell? ⟨gb,2,none⟩=some (.slice (some ⟨bk,o,none⟩) n vc):=n2;have p4:(w1.drewN nq).cell? ⟨bk,o+s*4,none⟩=some (.int .i64 z):=n3;have p5:(w1.drewN nq).cell? ⟨gb,4,none⟩=some (.bool false):=n4;have p6:(w1.drewN nq).cell? ⟨gb,5,none⟩=some (.pointer (some ⟨r,0,none⟩)):=n5;have p7:(w1.drewN nq).cell? ⟨gx,3,none⟩=some (.int .i64 xc):=m3;have p8:(w1.drewN nq).cell? ⟨gx,4,none⟩=some (.string xs):=m4;generalize w1.drewN nq=w5 at *;clear m1 m2 m3 m4 n2 n3 n4 n5 HB1 c1 HV
 go_quiet ((go_at_call 42;exact Calls.quiet_of_same ((c2 _).mono fun e W q=>⟨q.1,q.2.symm⟩)))
 have HB6:Hid (Below gx w (w5.drewN nq)):=⟨HB5.out.os,HB5.out.tape,HB5.out.output,HB5.out.size,HB5.out.block⟩;have q5:(w5.drewN nq).cell? ⟨gb,4,none⟩=some (.bool false):=p5;have q6:(w5.drewN nq).cell? ⟨gb,5,none⟩=some (.pointer (some ⟨r,0,none⟩)):=p6;have q7:(w5.drewN nq).cell? ⟨gx,3,none⟩=some (.int .i64 xc):=p7;have q8:(w5.drewN nq).cell? ⟨gx,4,none⟩=some (.string xs):=p8;generalize w5.drewN nq=w6 at *;clear p2 p3 p4 p5 p6 p7 p8 HB5
 go_wp2_with fail
 go_region_with (first
  |(go_at_call 94;refine(c3 _ (by first|exact HB6.out.drew|exact HB6.out)).mono ?_;rintro e w9 ⟨⟨er,rfl⟩,hq⟩))
 all_goals
  go_wp2_with fail
  go_ret;exact⟨rfl,hq⟩
end
section
theorem zx3:∀ (m n:Nat) (w:World),m<=20->n<=1000000000000000000->n<10 ^ (m+1) ->
  Calls Tryz.prog 237 #[.int .i64 n] w fun e w'=>e=.returned (.string (decS m n))/\Below w.heap.size w w':=by
 intro m
 induction m with
 |zero =>
  intro n w hm hn h1;have h10:n<10:=by simpa using h1
  have hr:Hid (decS 0 n=oneB (48+n)):=rfl;clear h1;have hc:=zj0 (w.alloc (.cells #[.int .u8 (48+n:Nat)] 5)) w.heap.size (48+n) (by omega) (zam rfl rfl);simp only[qx,qk]at hc
  go_enter Tryz.func237,Tryz.ntmps237
  go_wp2_with fail
  go_ret;exact⟨zen hr.out.symm,(Below.refl _ _).alloc (qf _) _⟩
 |succ m ih =>
  intro n w hm hn h1;by_cases h10:n<10
  ·have hr:Hid (decS (m+1) n=oneB (48+n)):=by show _=_;rw[decS,if_pos h10]
   clear h1;have hc:=zj0 (w.alloc (.cells #[.int .u8 (48+n:Nat)] 5)) w.heap.size (48+n) (by omega) (zam rfl rfl);simp only[qx,qk]at hc
   go_enter Tryz.func237,Tryz.ntmps237
   go_wp2_with fail
   go_ret;exact⟨zen hr.out.symm,(Below.refl _ _).alloc (qf _) _⟩
  ·have hr:Hid (decS (m+1) n=decS m (n / 10)++oneB (48+n % 10)):=by show _=_;rw[decS,if_neg h10]
   have hcall:=fun w=>ih (n / 10) w (by omega) (by omega) (by rw[Nat.pow_succ]at h1;omega);have hsz:=zeu m (n / 10);have hs1:(oneB (48+n % 10)).size=1:=rfl;clear h1 ih;simp only[Int.natCast_ediv,qk]at hcall;have hconv:=fun (W:World) (b:Nat) (h:W.cell? ⟨b,0,none⟩=some (.int .u8 (48+(n:Int) % 10)))=>zj0 W b (48+n % 10) (by omega) (by rw[h];simp);have ht:(n:Int).tmod 10=(n:Int) % 10:=Int.tmod_eq_emod_of_nonneg (by omega);have hw1:IntKind.i64.wrap ((n:Int) / 10)=(n:Int) / 10:=by rw[IntKind.wrap_i64];omega
   have hw2:IntKind.i64.wrap ((n:Int) % 10)=(n:Int) % 10:=by rw[IntKind.wrap_i64];omega
   have hw3:IntKind.i64.wrap (48+(n:Int) % 10)=48+(n:Int) % 10:=by rw[IntKind.wrap_i64];omega
   have hw4:IntKind.u8.wrap (48+(n:Int) % 10)=48+(n:Int) % 10:=by rw[IntKind.wrap_u8];omega
   go_enter Tryz.func237,Tryz.ntmps237
   go_wp2_with fail
   go_region_with (go_at_call 237;refine(hcall _).mono ?_;rintro e w1 ⟨rfl,hb1⟩;obtain⟨hc1,hf1⟩:=zap hb1)
   all_goals
    go_wp2_with fail
    go_ret;refine⟨zen hr.out.symm,?_⟩
    first|exact Below.trans (((Below.refl _ _).alloc (qf _) _).drew) (hb1.mono (by simp))|exact Below.alloc' ((Below.refl w.heap.size w).drew.trans (hb1.mono (by simp))) _
theorem zo9 (x:Int)(w:World)(h0:0<=x)(h1:x<=1000000000000000000) :
  Calls Tryz.prog 237 #[.int .i64 x] w fun e w'=>e=.returned (.string (decS 18 x.toNat))/\Below w.heap.size w w':=by
 obtain⟨n,rfl⟩:∃ n:Nat,x=n:=⟨x.toNat,by omega⟩;exact zx3 18 n w (by omega) (by omega) (by omega)
theorem zex (n:Int)(w:World)(h1:-1000000000000000000<=n)(h2:n<=1000000000000000000) :
  Calls Tryz.prog 186 #[.int .i64 n] w fun e w'=>e=.returned (.string (decI n))/\Below w.heap.size w w':=by
 by_cases hn:n<0
 ·have hr:Hid (decI n=⟨#[45]⟩++decS 18 (-n).toNat):=by show _=_;unfold decI;rw[if_pos hn]
  have hsz:=zeu 18 (-n).toNat;have hs1:(⟨#[45]⟩:ByteArray).size=1:=rfl
  go_enter Tryz.func186,Tryz.ntmps186
  go_wp2_with (go_at_call 237;refine(zo9 _ _ (by omega) (by omega)).mono ?_;rintro e w1 ⟨rfl,hb1⟩)
  go_ret;exact⟨zen hr.out.symm,hb1⟩
 ·have hr:Hid (decI n=decS 18 n.toNat):=by show _=_;unfold decI;rw[if_neg hn]
  go_enter Tryz.func186,Tryz.ntmps186
  go_wp2_with (go_at_call 237;refine(zo9 _ _ (by omega) (by omega)).mono ?_;rintro e w1 ⟨rfl,hb1⟩)
  go_ret;exact⟨zen hr.out.symm,hb1⟩
end
section
theorem zm9:∀ (m u:Nat),(codU m xp u).size<=m+1
 |0,u=>by rw[codU,xe,zak];simp
 |m+1,u=>by
  by_cases h:u<128
  ·rw[zhq h,zak];omega
  ·rw[zjz (by omega),xe,zak];have:=zm9 m (u / 128);omega
theorem zpq (a:Int):(zcp a).size<=9:=zm9 8 _
theorem lit3 {p q r m:ByteArray}(h:p++q++r=m)(x:ByteArray):p++(q++(r++x))=m++x:=by rw[<- h,xq,xq]
end
section
theorem ze5 (x:Int)(h:-1000<x/\x<1000):(decI x).size<=20:=by
 unfold decI;split
 ·have:=zeu 18 (-x).toNat;rw[xe];have e1:(⟨#[45]⟩:ByteArray).size=1:=rfl;omega
 ·have:=zeu 18 x.toNat;omega
def sayA (v:Int):ByteArray:=(⟨#[123,97,58]⟩++decI v)++⟨#[125]⟩
def sayX (v:Int):ByteArray:=(⟨#[123,97,58]⟩++decI v)++⟨#[44,98,58,34,120,34,125]⟩
theorem zro {s:ByteArray}{k m:Nat}(hk:k=105\/k=108)(hz:s.size=m+2)(hs:s.size<=60)(hp:pAll false s=some ⟨123,xp,false,[],[(97,za3 k,xp)]⟩){v:Int}(hv:-1000<v/\v<1000):(zau false s (sayA v)).2=0:=by
 have hl:=ze5 v hv;have ho:okV (m+1+1) ⟨123,xp,false,[],[(97,za3 k,xp)]⟩ (.rcd [.num v]):=by
  refine zgr ⟨rfl,by simp,rfl,fun p hp=>?_⟩;simp only[qq,qu,qe,xz,or_false]at hp;subst hp;rcases hk with rfl|rfl
  ·exact ze0 (.inl ⟨rfl,by omega,by omega⟩)
  ·exact ze0 (.inr ⟨rfl,by omega,by omega⟩)
 have ht:txtV (m+1+1) ⟨123,xp,false,[],[(97,za3 k,xp)]⟩ (.rcd [.num v])=sayA v:=by
  show zcb [(97,txtV (m+1) (za3 k) (.num v))] ⟨#[123]⟩ xp=_;simp only[zcb,xq,qp];rw[lit3 (p:=⟨#[123]⟩) (q:=oneB 97) (r:=⟨#[58]⟩) (m:=⟨#[123,97,58]⟩) (by decide +kernel)];unfold sayA;rw[xq];rfl
 have hd:(datV (m+2) (.rcd [.num v])).size<=64:=by
  rw[show m+2=m+1+1 from rfl,zeg];simp only[qy,uc,catB,xe];have h1:(datV (m+1) (.num v)).size<=9:=zpq v;have e0:ByteArray.empty.size=0:=rfl;omega
 have h4:(sayA v).size<=4096:=by
  unfold sayA;rw[xe,xe];have e1:(⟨#[123,97,58]⟩:ByteArray).size=3:=rfl;have e2:(⟨#[125]⟩:ByteArray).size=1:=rfl;omega
 have he:=zoh (s:=s) hs hp (v:=.rcd [.num v]) (by rw[hz];exact ho) (by rw[hz,ht];exact h4);rw[hz,ht,if_neg (by omega)]at he;rw[he]
theorem zli {s df:ByteArray}{k m:Nat}(hk:k=105\/k=108)(hz:s.size=m+2)(hs:s.size<=60)(hp:pAll false s=some ⟨123,xp,false,[],[(97,za3 k,xp),(98,za3 115,df)]⟩){v:Int}(hv:-1000<v/\v<1000):(zau false s (sayX v)).2=0:=by
 have hl:=ze5 v hv;have ho:okV (m+1+1) ⟨123,xp,false,[],[(97,za3 k,xp),(98,za3 115,df)]⟩ (.rcd [.num v,.str ⟨#[120]⟩]):=by
  refine zgr ⟨rfl,by simp,rfl,fun p hp=>?_⟩;simp only[qq,qu,qe,xz,or_false]at hp;rcases hp with rfl|rfl
  ·rcases hk with rfl|rfl
   ·exact ze0 (.inl ⟨rfl,by omega,by omega⟩)
   ·exact ze0 (.inr ⟨rfl,by omega,by omega⟩)
  ·exact zkx ⟨rfl,by decide,by decide⟩
 have ht:txtV (m+1+1) ⟨123,xp,false,[],[(97,za3 k,xp),(98,za3 115,df)]⟩ (.rcd [.num v,.str ⟨#[120]⟩])=sayX v:=by
  show zcb [(97,txtV (m+1) (za3 k) (.num v)),(98,txtV (m+1) (za3 115) (.str ⟨#[120]⟩))] ⟨#[123]⟩ xp=_;have e1:txtV (m+1) (za3 115) (.str ⟨#[120]⟩)=⟨#[34,120,34]⟩:=by rw[zg6];decide +kernel
  rw[e1];simp only[zcb,xq,qp];rw[lit3 (p:=⟨#[123]⟩) (q:=oneB 97) (r:=⟨#[58]⟩) (m:=⟨#[123,97,58]⟩) (by decide +kernel)];unfold sayX;rw[xq,show (⟨#[44]⟩++(oneB 98++(⟨#[58]⟩++(⟨#[34,120,34]⟩++⟨#[125]⟩))):ByteArray)=⟨#[44,98,58,34,120,34,125]⟩ by decide +kernel];rfl
 have hd:(datV (m+2) (.rcd [.num v,.str ⟨#[120]⟩])).size<=64:=by
  rw[show m+2=m+1+1 from rfl,zeg];simp only[qy,uc,catB,xe];have h1:(datV (m+1) (.num v)).size<=9:=zpq v;have h2:(datV (m+1) (.str ⟨#[120]⟩)).size=2:=by rw[zht,xe,zak];rfl
  have e0:ByteArray.empty.size=0:=rfl;omega
 have h4:(sayX v).size<=4096:=by
  unfold sayX;rw[xe,xe];have e1:(⟨#[123,97,58]⟩:ByteArray).size=3:=rfl;have e2:(⟨#[44,98,58,34,120,34,125]⟩:ByteArray).size=7:=rfl;omega
 have he:=zoh (s:=s) hs hp (v:=.rcd [.num v,.str ⟨#[120]⟩]) (by rw[hz];exact ho) (by rw[hz,ht];exact h4);rw[hz,ht,if_neg (by omega)]at he;rw[he]
def zbz (s:ByteArray)(w:World)(e:Ending)(W:World):Prop:=∃ t,e=.returned (.string t)/\(zau false s t).2=0/\t.size<=4096/\Below w.heap.size w W
theorem ze7 (c:Int):-1000<c.tmod 1000/\c.tmod 1000<1000:=by
 have h:=Int.natAbs_tmod c 1000;have h2:c.natAbs % (1000:Int).natAbs<(1000:Int).natAbs:=Nat.mod_lt _ (by decide);omega
theorem zim (c:Int)(w:World):Calls Tryz.prog 123 #[.string sAi,.int .i64 c] w fun e W=>zbz sAi w e W:=by
 have hb:=ze7 c;have c1:=fun W=>zex (c.tmod 1000) W (by omega) (by omega);have hl:=ze5 _ hb;have hE:=zaa (zro (k:=105) (m:=3) (s:=sAi) (.inl rfl) rfl (by decide) (by kernel_rfl) hb);unfold sayA at hE;generalize decI (c.tmod 1000)=T at *;have a1:xv .add ⟨#[123,97,58]⟩ T=(pure (.string (⟨#[123,97,58]⟩++T)):Sem Value):=zdk (by have e1:(⟨#[123,97,58]⟩:ByteArray).size=3:=rfl;omega);have a2:xv .add (⟨#[123,97,58]⟩++T) ⟨#[125]⟩=(pure (.string ((⟨#[123,97,58]⟩++T)++⟨#[125]⟩)):Sem Value):=zdk (by rw[xe];have e1:(⟨#[123,97,58]⟩:ByteArray).size=3:=rfl;have e2:(⟨#[125]⟩:ByteArray).size<=7:=(by decide);omega);have hz:((⟨#[123,97,58]⟩++T)++⟨#[125]⟩).size<=4096:=by rw[xe,xe];have e1:(⟨#[123,97,58]⟩:ByteArray).size=3:=rfl;have e2:(⟨#[125]⟩:ByteArray).size<=7:=(by decide);omega
 obtain⟨Q,hQ⟩:∃ Q,Q=zbz sAi w:=⟨_,rfl⟩;rw[<- hQ];have HQ:=zaa hQ;clear hQ;show Calls _ _ #[.string ⟨#[123,97,58,105,125]⟩,.int .i64 c] w _
 go_enter Tryz.func123,Tryz.ntmps123
 go_wp2_with (first|(go_at_call 186;refine(c1 _).mono ?_;rintro e w1 ⟨rfl,hb1⟩))
 rw[HQ.out];exact⟨_,rfl,hE.out,hz,hb1⟩
theorem yab2 (c:Int)(w:World):Calls Tryz.prog 123 #[.string sAl,.int .i64 c] w fun e W=>zbz sAl w e W:=by
 have hb:=ze7 c;have c1:=fun W=>zex (c.tmod 1000) W (by omega) (by omega);have hl:=ze5 _ hb;have hE:=zaa (zro (k:=108) (m:=3) (s:=sAl) (.inr rfl) rfl (by decide) (by kernel_rfl) hb);unfold sayA at hE;generalize decI (c.tmod 1000)=T at *;have a1:xv .add ⟨#[123,97,58]⟩ T=(pure (.string (⟨#[123,97,58]⟩++T)):Sem Value):=zdk (by have e1:(⟨#[123,97,58]⟩:ByteArray).size=3:=rfl;omega);have a2:xv .add (⟨#[123,97,58]⟩++T) ⟨#[125]⟩=(pure (.string ((⟨#[123,97,58]⟩++T)++⟨#[125]⟩)):Sem Value):=zdk (by rw[xe];have e1:(⟨#[123,97,58]⟩:ByteArray).size=3:=rfl;have e2:(⟨#[125]⟩:ByteArray).size<=7:=(by decide);omega);have hz:((⟨#[123,97,58]⟩++T)++⟨#[125]⟩).size<=4096:=by rw[xe,xe];have e1:(⟨#[123,97,58]⟩:ByteArray).size=3:=rfl;have e2:(⟨#[125]⟩:ByteArray).size<=7:=(by decide);omega
 obtain⟨Q,hQ⟩:∃ Q,Q=zbz sAl w:=⟨_,rfl⟩;rw[<- hQ];have HQ:=zaa hQ;clear hQ;show Calls _ _ #[.string ⟨#[123,97,58,108,125]⟩,.int .i64 c] w _
 go_enter Tryz.func123,Tryz.ntmps123
 go_wp2_with (first|(go_at_call 186;refine(c1 _).mono ?_;rintro e w1 ⟨rfl,hb1⟩))
 rw[HQ.out];exact⟨_,rfl,hE.out,hz,hb1⟩
theorem yab3 (c:Int)(w:World):Calls Tryz.prog 123 #[.string sAlb,.int .i64 c] w fun e W=>zbz sAlb w e W:=by
 have hb:=ze7 c;have c1:=fun W=>zex (c.tmod 1000) W (by omega) (by omega);have hl:=ze5 _ hb;have hE:=zaa (zli (df:=⟨#[34,45,34]⟩) (k:=108) (m:=11) (s:=sAlb) (.inr rfl) rfl (by decide) (by kernel_rfl) hb);unfold sayX at hE;generalize decI (c.tmod 1000)=T at *;have a1:xv .add ⟨#[123,97,58]⟩ T=(pure (.string (⟨#[123,97,58]⟩++T)):Sem Value):=zdk (by have e1:(⟨#[123,97,58]⟩:ByteArray).size=3:=rfl;omega);have a2:xv .add (⟨#[123,97,58]⟩++T) ⟨#[44,98,58,34,120,34,125]⟩=(pure (.string ((⟨#[123,97,58]⟩++T)++⟨#[44,98,58,34,120,34,125]⟩)):Sem Value):=zdk (by rw[xe];have e1:(⟨#[123,97,58]⟩:ByteArray).size=3:=rfl;have e2:(⟨#[44,98,58,34,120,34,125]⟩:ByteArray).size<=7:=(by decide);omega);have hz:((⟨#[123,97,58]⟩++T)++⟨#[44,98,58,34,120,34,125]⟩).size<=4096:=by rw[xe,xe];have e1:(⟨#[123,97,58]⟩:ByteArray).size=3:=rfl;have e2:(⟨#[44,98,58,34,120,34,125]⟩:ByteArray).size<=7:=(by decide);omega
 obtain⟨Q,hQ⟩:∃ Q,Q=zbz sAlb w:=⟨_,rfl⟩;rw[<- hQ];have HQ:=zaa hQ;clear hQ;show Calls _ _ #[.string ⟨#[123,97,58,108,44,98,58,115,61,34,45,34,125]⟩,.int .i64 c] w _
 go_enter Tryz.func123,Tryz.ntmps123
 go_wp2_with (first|(go_at_call 186;refine(c1 _).mono ?_;rintro e w1 ⟨rfl,hb1⟩))
 rw[HQ.out];exact⟨_,rfl,hE.out,hz,hb1⟩
theorem yab0 (c:Int)(w:World):Calls Tryz.prog 123 #[.string sAib,.int .i64 c] w fun e W=>zbz sAib w e W:=by
 have hb:=ze7 c;have c1:=fun W=>zex (c.tmod 1000) W (by omega) (by omega);have hl:=ze5 _ hb;have hE:=zaa (zli (df:=xp) (k:=105) (m:=7) (s:=sAib) (.inl rfl) rfl (by decide) (by kernel_rfl) hb);unfold sayX at hE;generalize decI (c.tmod 1000)=T at *;have a1:xv .add ⟨#[123,97,58]⟩ T=(pure (.string (⟨#[123,97,58]⟩++T)):Sem Value):=zdk (by have e1:(⟨#[123,97,58]⟩:ByteArray).size=3:=rfl;omega);have a2:xv .add (⟨#[123,97,58]⟩++T) ⟨#[44,98,58,34,120,34,125]⟩=(pure (.string ((⟨#[123,97,58]⟩++T)++⟨#[44,98,58,34,120,34,125]⟩)):Sem Value):=zdk (by rw[xe];have e1:(⟨#[123,97,58]⟩:ByteArray).size=3:=rfl;have e2:(⟨#[44,98,58,34,120,34,125]⟩:ByteArray).size<=7:=(by decide);omega);have hz:((⟨#[123,97,58]⟩++T)++⟨#[44,98,58,34,120,34,125]⟩).size<=4096:=by rw[xe,xe];have e1:(⟨#[123,97,58]⟩:ByteArray).size=3:=rfl;have e2:(⟨#[44,98,58,34,120,34,125]⟩:ByteArray).size<=7:=(by decide);omega
 obtain⟨Q,hQ⟩:∃ Q,Q=zbz sAib w:=⟨_,rfl⟩;rw[<- hQ];have HQ:=zaa hQ;clear hQ;show Calls _ _ #[.string ⟨#[123,97,58,105,44,98,58,115,125]⟩,.int .i64 c] w _
 go_enter Tryz.func123,Tryz.ntmps123
 go_wp2_with (first|(go_at_call 186;refine(c1 _).mono ?_;rintro e w1 ⟨rfl,hb1⟩))
 rw[HQ.out];exact⟨_,rfl,hE.out,hz,hb1⟩
theorem yab1 (c:Int)(w:World):Calls Tryz.prog 123 #[.string sAid,.int .i64 c] w fun e W=>zbz sAid w e W:=by
 have hb:=ze7 c;have c1:=fun W=>zex (c.tmod 1000) W (by omega) (by omega);have hl:=ze5 _ hb;have hE:=zaa (zli (df:=⟨#[34,45,34]⟩) (k:=105) (m:=11) (s:=sAid) (.inl rfl) rfl (by decide) (by kernel_rfl) hb);unfold sayX at hE;generalize decI (c.tmod 1000)=T at *;have a1:xv .add ⟨#[123,97,58]⟩ T=(pure (.string (⟨#[123,97,58]⟩++T)):Sem Value):=zdk (by have e1:(⟨#[123,97,58]⟩:ByteArray).size=3:=rfl;omega);have a2:xv .add (⟨#[123,97,58]⟩++T) ⟨#[44,98,58,34,120,34,125]⟩=(pure (.string ((⟨#[123,97,58]⟩++T)++⟨#[44,98,58,34,120,34,125]⟩)):Sem Value):=zdk (by rw[xe];have e1:(⟨#[123,97,58]⟩:ByteArray).size=3:=rfl;have e2:(⟨#[44,98,58,34,120,34,125]⟩:ByteArray).size<=7:=(by decide);omega);have hz:((⟨#[123,97,58]⟩++T)++⟨#[44,98,58,34,120,34,125]⟩).size<=4096:=by rw[xe,xe];have e1:(⟨#[123,97,58]⟩:ByteArray).size=3:=rfl;have e2:(⟨#[44,98,58,34,120,34,125]⟩:ByteArray).size<=7:=(by decide);omega
 obtain⟨Q,hQ⟩:∃ Q,Q=zbz sAid w:=⟨_,rfl⟩;rw[<- hQ];have HQ:=zaa hQ;clear hQ;show Calls _ _ #[.string ⟨#[123,97,58,105,44,98,58,115,61,34,45,34,125]⟩,.int .i64 c] w _
 go_enter Tryz.func123,Tryz.ntmps123
 go_wp2_with (first|(go_at_call 186;refine(c1 _).mono ?_;rintro e w1 ⟨rfl,hb1⟩))
 rw[HQ.out];exact⟨_,rfl,hE.out,hz,hb1⟩
theorem yabx:(zau false sAB ⟨#[97]⟩).2=0/\(zau false sAB ⟨#[98]⟩).2=0:=by decide +kernel
theorem yabz (c:Int)(hc:-9223372036854775808<=c/\c<=9223372036854775807)(w:World):Calls Tryz.prog 123 #[.string sAB,.int .i64 c] w fun e W=>zbz sAB w e W:=by
 have hb:=ze7 c;have c1:=fun W=>zex (c.tmod 1000) W (by omega) (by omega);have c2:=fun W=>zcj c 2 hc (by omega) (by omega) W;have hp:=zbn c (n:=2) (by omega);have hE:=zaa yabx;generalize decI (c.tmod 1000)=T at *;generalize pckN c 2=q at *;obtain⟨Q,hQ⟩:∃ Q,Q=zbz sAB w:=⟨_,rfl⟩;rw[<- hQ];have HQ:=zaa hQ;clear hQ hc;show Calls _ _ #[.string ⟨#[60,97,98,62]⟩,.int .i64 c] w _;have hq:q=0\/q=1:=by omega
 rcases hq with rfl|rfl
 ·go_enter Tryz.func123,Tryz.ntmps123
  go_wp2_with (first|(go_at_call 186;refine(c1 _).mono ?_;rintro e w1 ⟨rfl,hb1⟩)|(go_at_call 42;refine(c2 _).mono ?_;rintro e _ ⟨rfl,rfl⟩))
  rw[HQ.out];exact⟨⟨#[97]⟩,rfl,hE.out.1,by decide,hb1⟩
 ·go_enter Tryz.func123,Tryz.ntmps123
  go_wp2_with (first|(go_at_call 186;refine(c1 _).mono ?_;rintro e w1 ⟨rfl,hb1⟩)|(go_at_call 42;refine(c2 _).mono ?_;rintro e _ ⟨rfl,rfl⟩))
  rw[HQ.out];exact⟨⟨#[98]⟩,rfl,hE.out.2,by decide,hb1⟩
theorem yaby:(zau false sCD ⟨#[99]⟩).2=0/\(zau false sCD ⟨#[100]⟩).2=0:=by decide +kernel
theorem yab4 (c:Int)(hc:-9223372036854775808<=c/\c<=9223372036854775807)(w:World):Calls Tryz.prog 123 #[.string sCD,.int .i64 c] w fun e W=>zbz sCD w e W:=by
 have hb:=ze7 c;have c1:=fun W=>zex (c.tmod 1000) W (by omega) (by omega);have c2:=fun W=>zcj c 2 hc (by omega) (by omega) W;have hp:=zbn c (n:=2) (by omega);have hE:=zaa yaby;generalize decI (c.tmod 1000)=T at *;generalize pckN c 2=q at *;obtain⟨Q,hQ⟩:∃ Q,Q=zbz sCD w:=⟨_,rfl⟩;rw[<- hQ];have HQ:=zaa hQ;clear hQ hc;show Calls _ _ #[.string ⟨#[60,99,100,62]⟩,.int .i64 c] w _;have hq:q=0\/q=1:=by omega
 rcases hq with rfl|rfl
 ·go_enter Tryz.func123,Tryz.ntmps123
  go_wp2_with (first|(go_at_call 186;refine(c1 _).mono ?_;rintro e w1 ⟨rfl,hb1⟩)|(go_at_call 42;refine(c2 _).mono ?_;rintro e _ ⟨rfl,rfl⟩))
  rw[HQ.out];exact⟨⟨#[99]⟩,rfl,hE.out.1,by decide,hb1⟩
 ·go_enter Tryz.func123,Tryz.ntmps123
  go_wp2_with (first|(go_at_call 186;refine(c1 _).mono ?_;rintro e w1 ⟨rfl,hb1⟩)|(go_at_call 42;refine(c2 _).mono ?_;rintro e _ ⟨rfl,rfl⟩))
  rw[HQ.out];exact⟨⟨#[100]⟩,rfl,hE.out.2,by decide,hb1⟩
end
end Go.Proofs.YtkkekopomiehlabGreatDoor
