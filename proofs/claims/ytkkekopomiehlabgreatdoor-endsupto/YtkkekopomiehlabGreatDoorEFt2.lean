import Derived.Test.YtkkekopomiehlabGreatDoorEEq3
set_option linter.unusedVariables false
set_option linter.unusedSimpArgs false
set_option maxHeartbeats 40000000
open ByteArray renaming empty->xe,size_append->xm
open List renaming getElem?_eq_getElem->xf,getElem?_map->xg,findIdx?_eq_some_iff_getElem->xh,mem_of_getElem?->xp
open Option renaming map_eq_some_iff->xj,map_some->xq
open Nat renaming le_refl->xo,zero_le->xu,zero_add->xv
open Go.ByteArray renaming toList_eq->xy
open Go.RowKit
set_option maxRecDepth 4000
namespace Go.Proofs.YtkkekopomiehlabGreatDoor
theorem thn2 {w W w1:World}(h:Below w.heap.size w W)(k:Below W.heap.size W w1):Below w.heap.size w w1:=h.trans (k.mono h.size)
theorem zx8 (w:World)(af:Option Addr)(lf cf:Nat)(R:ByteArray)(h:Calls Tryz.prog 285 #[.slice af lf cf,.int .i64 (-1),.string ⟨#[]⟩] w fun e w'=>e=.returned (.string R)/\Below w.heap.size w w') :
  Calls Tryz.prog 283 #[.slice af lf cf] w fun e w'=>e=.returned (.string R)/\Below w.heap.size w w':=by
 go_enter Tryz.func283,Tryz.ntmps283
 go_wp2_with (first|(go_at_call 285;refine h.mono ?_;rintro e w1 ⟨rfl,hb1⟩))
 go_ret;exact⟨rfl,hb1⟩
theorem zpd {n:Nat}(IH:zfx n)(fs:List (Nat×Ty×ByteArray))(w:World)(af:Option Addr)(lf cf:Nat)(hlf:lf=fs.length)(hfl:fs.length<=9000000)(hk:∀ f∈fs,f.1<256/\tyK n f.2.1)(hwt:(fs.map fun f=>wt n f.2.1+f.2.2.size+4).sum<=20000)(hr:RepF n w af fs) :
  Calls Tryz.prog 283 #[.slice af lf cf] w fun e w'=>e=.returned (.string (rwT (fun t=>txtV n t (lv n t)) ⟨#[]⟩ (-1) fs 0 ⟨#[123]⟩ xe))/\Below w.heap.size w w' :=
 zx8 w af lf cf _ (zri IH fs (-1) ⟨#[]⟩ w af lf cf hlf hfl (xu _) hk hwt hr)
theorem zgn (ty:Ty)(w:World)(ai af:Option Addr)(li ci lf cf:Nat)(k:Nat)(x:ByteArray)(hk:ty.kind=k)(h:(k=105/\x=⟨#[48]⟩)\/(k=108/\x=⟨#[48]⟩)\/(k=115/\x=⟨#[34,34]⟩)\/(k=91/\x=⟨#[91,93]⟩)\/(k=63/\x=⟨#[95]⟩)) :
  Calls Tryz.prog 228 #[.agg #[.int .i64 ty.kind,.string ty.letters,.bool ty.op,.slice ai li ci,.slice af lf cf]] w fun e w'=>e=.returned (.string x)/\Below w.heap.size w w':=by
 have hB:∀ o,Below w.heap.size w (w.alloc o):=fun o=>(Below.refl _ _).alloc (xo _) _;rw[hk];rcases h with⟨rfl,rfl⟩|⟨rfl,rfl⟩|⟨rfl,rfl⟩|⟨rfl,rfl⟩|⟨rfl,rfl⟩<;>(
  clear hk
  go_enter Tryz.func228,Tryz.ntmps228
  go_wp2_with fail
  go_ret;exact⟨rfl,by first|exact hB _|exact Below.refl _ _⟩)
theorem zx9 (ty:Ty)(w:World)(ai af:Option Addr)(li ci lf cf:Nat)(hk:ty.kind=60)(hl:ty.letters.size<=8) :
  Calls Tryz.prog 228 #[.agg #[.int .i64 ty.kind,.string ty.letters,.bool ty.op,.slice ai li ci,.slice af lf cf]] w fun e w'=>e=.returned (.string (ty.letters.extract 0 1))/\Below w.heap.size w w':=by
 have hB:∀ o,Below w.heap.size w (w.alloc o):=fun o=>(Below.refl _ _).alloc (xo _) _;have hfl:=fun W=>zot ty ai li ci af lf cf W hl;rw[hk]at hfl ⊢;clear hk
 go_enter Tryz.func228,Tryz.ntmps228
 go_wp2_with (first|(go_at_call 250;refine(hfl _).mono ?_;rintro e w1 ⟨rfl,hb1⟩))
 go_ret;exact⟨rfl,by first|exact thn2 (hB _) hb1|exact hb1⟩
theorem zya (ty:Ty)(w:World)(ai af:Option Addr)(li ci lf cf:Nat)(hk:ty.kind=123)(x:ByteArray)(h:∀ W,Below w.heap.size w W->Calls Tryz.prog 283 #[.slice af lf cf] W fun e w'=>e=.returned (.string x)/\Below W.heap.size W w') :
  Calls Tryz.prog 228 #[.agg #[.int .i64 ty.kind,.string ty.letters,.bool ty.op,.slice ai li ci,.slice af lf cf]] w fun e w'=>e=.returned (.string x)/\Below w.heap.size w w':=by
 have hB:∀ o,Below w.heap.size w (w.alloc o):=fun o=>(Below.refl _ _).alloc (xo _) _;rw[hk];clear hk
 go_enter Tryz.func228,Tryz.ntmps228
 go_wp2_with (first|(go_at_call 283;refine(h _ (by first|exact hB _|exact Below.refl _ _)).mono ?_;rintro e w1 ⟨rfl,hb1⟩))
 go_ret;exact⟨rfl,by first|exact thn2 (hB _) hb1|exact hb1⟩
theorem zyb {n:Nat}(IH:zfx n):zfx (n+1):=by
 intro ty w ai af li ci lf cf hk hwt hr;obtain⟨hkk,hl1,_,hkf⟩:=hk;have hl8:ty.letters.size<=8:=hr.1;rcases hkk with h|h|h|h|h|h|h
 ·rw[show lv (n+1) ty=.num 0 by rw[lv,if_pos (.inl h)]];exact zgn ty w ai af li ci lf cf _ _ h (.inl ⟨rfl,rfl⟩)
 ·rw[show lv (n+1) ty=.num 0 by rw[lv,if_pos (.inr h)]];exact zgn ty w ai af li ci lf cf _ _ h (.inr (.inl ⟨rfl,rfl⟩))
 ·rw[show lv (n+1) ty=.str xe by rw[lv,if_neg (by omega),if_pos h]];exact zgn ty w ai af li ci lf cf _ _ h (.inr (.inr (.inl ⟨rfl,by show (quo++xe++quo:ByteArray)=_;decide⟩)))
 ·rw[show lv (n+1) ty=.cho 0 by rw[lv,if_neg (by omega),if_neg (by omega),if_pos h],zdy,<- zoq ty.letters 0 (hl1 h)];exact zx9 ty w ai af li ci lf cf h hl8
 ·rw[show lv (n+1) ty=.lst [] by rw[lv,if_neg (by omega),if_neg (by omega),if_neg (by omega),if_pos h]];exact zgn ty w ai af li ci lf cf _ _ h (.inr (.inr (.inr (.inl ⟨rfl,by show (⟨#[91]⟩++⟨#[93]⟩:ByteArray)=_;decide⟩))))
 ·rw[show lv (n+1) ty=.non by rw[lv,if_neg (by omega),if_neg (by omega),if_neg (by omega),if_neg (by omega),if_pos h]];exact zgn ty w ai af li ci lf cf _ _ h (.inr (.inr (.inr (.inr ⟨rfl,rfl⟩))))
 ·rw[show lv (n+1) ty=.rcd (ty.fields.map fun f=>lv n f.2.1) by rw[lv,if_neg (by omega),if_neg (by omega),if_neg (by omega),if_neg (by omega),if_neg (by omega)],zdh,<- zfn (fun t=>txtV n t (lv n t)) (txtV n) ⟨#[]⟩ (-1) ty.fields _ 0 _ _ (by simp) (fun i g v hg hv=>by
        rw[xg,hg]at hv;simp at hv;rw[if_neg (by omega),<- hv])]
  refine zya ty w ai af li ci lf cf h _ (fun W hb=>?_);have hfl:=(hr.keep hb).flds;exact zpd IH ty.fields W af lf cf hfl.1 hfl.2.1 hkf (by rw[wt]at hwt;omega) hfl.2.2
theorem zgm:∀ n,zfx n
 |0=>fun ty w ai af li ci lf cf _ _ hr=>hr.elim
 |n+1=>zyb (zgm n)
def unL (wl rl:ByteArray)(op:Bool):Nat->Nat->Option Nat
 |0,_=>none
 |m+1,k=>if (op||decide (0<=pOf rl (bAt wl k)))=true then unL wl rl op m (k+1) else some k
def zsq (wl:ByteArray):Option Nat->Value
 |some k=>.tuple #[.string (oneB (bAt wl k).toNat),.bool true]
 |none=>.tuple #[.string xe,.bool false]
theorem yaen (x r:Ty)(ai:Option Addr)(li ci:Nat)(af:Option Addr)(lf cf:Nat)(bi:Option Addr)(mi di:Nat)(bf:Option Addr)(mf df:Nat)(w:World)(hx8:x.letters.size<=8)(hr8:r.letters.size<=8) :
  Calls Tryz.prog 229 #[.agg #[.int .i64 x.kind,.string x.letters,.bool x.op,.slice ai li ci,.slice af lf cf],.agg #[.int .i64 r.kind,.string r.letters,.bool r.op,.slice bi mi di,.slice bf mf df]] w fun e w'=>e=.returned (zsq x.letters (unL x.letters r.letters r.op x.letters.size 0))/\Below w.heap.size w w':=by
 have _hx:x.letters.size<=9000000:=by omega
 obtain⟨R,hR⟩:∃ R,R=unL x.letters r.letters r.op x.letters.size 0:=⟨_,rfl⟩;rw[<- hR];have HR:Hid (R=unL x.letters r.letters r.op (x.letters.size-0) 0):=hR;clear hR
 go_enter Tryz.func229,Tryz.ntmps229
 go_wp2_with fail
 go_loopw [6] (fun vk wr=>∃ (k:Nat),k<=x.letters.size/\vk=.int .i64 k/\Hid (R=unL x.letters r.letters r.op (x.letters.size-k) k)/\Below (w.heap.size+2) ((w.alloc (.cells #[.int .i64 x.kind,.string x.letters,.bool x.op,.slice ai li ci,.slice af lf cf] 201)).alloc (.cells #[.int .i64 r.kind,.string r.letters,.bool r.op,.slice bi mi di,.slice bf mf df] 201)) wr) (fun k _=>9-(intOf k).toNat)
 case atStart=>exact⟨0,xu _,rfl,HR,Below.refl _ _⟩
 case round =>
  obtain⟨k,hk,rfl,hR,hb⟩:=hrel;have hbB:Below ((w.alloc (.cells #[.int .i64 x.kind,.string x.letters,.bool x.op,.slice ai li ci,.slice af lf cf] 201)).alloc (.cells #[.int .i64 r.kind,.string r.letters,.bool r.op,.slice bi mi di,.slice bf mf df] 201)).heap.size ((w.alloc (.cells #[.int .i64 x.kind,.string x.letters,.bool x.op,.slice ai li ci,.slice af lf cf] 201)).alloc (.cells #[.int .i64 r.kind,.string r.letters,.bool r.op,.slice bi mi di,.slice bf mf df] 201)) wr:=hb.mono (by simp);obtain⟨hc,hf⟩:=zap hbB;have hsw:w.heap.size+2<=wr.heap.size:=by have:=hb.size;simpa using this
  have hbw:Below w.heap.size w wr:=(((Below.refl _ _).alloc (xo _) _).alloc (by simp) _).trans (hb.mono (by omega));by_cases hlt:k<x.letters.size
  ·have hlt':(k:Int)<(x.letters.size:Int):=by omega
   have hlo:0<=bAt x.letters k:=by rw[zee _ _ hlt];omega
   have hhi:=zeq x.letters k;have hR2:R=if (r.op||decide (0<=pOf r.letters (bAt x.letters k)))=true then unL x.letters r.letters r.op (x.letters.size-(k+1)) (k+1) else some k:=by
    rw[hR.out,show x.letters.size-k=(x.letters.size-(k+1))+1 by omega];rfl
   have hby:=fun W=>zba x.letters k W _hx;have htk:=fun W=>zr8 r bi mi di bf mf df (bAt x.letters k) W hr8;obtain⟨c,hc0⟩:∃ c,c=bAt x.letters k:=⟨_,rfl⟩;rw[<- hc0]at hlo hhi hR2 hby htk;cases hT:(r.op||decide (0<=pOf r.letters c)) with
   |true =>
    rw[hT]at htk;have hr':Hid (R=unL x.letters r.letters r.op (x.letters.size-(k+1)) (k+1)):=by show _=_;rw[hR2,if_pos hT]
    clear hR2 hT hc0
    go_wp2_with (first|(go_at_call 245;refine(hby _).mono ?_;rintro e _ ⟨rfl,rfl⟩)|(go_at_call 248;refine(htk _).mono ?_;rintro e w1 ⟨rfl,hb1⟩))
    go_roundw
    case rel=>exact⟨k+1,by omega,by go_num,hr',hb.trans (hb1.mono hsw)⟩
    case measure=>simp[intOf];omega
   |false =>
    rw[hT]at htk;have hr':Hid (R=some k):=by show _=_;rw[hR2,if_neg (by rw[hT];simp)]
    have HC:Hid (bAt x.letters k=c):=hc0.symm;clear hR2 hT hc0
    go_wp2_with (first|(go_at_call 245;refine(hby _).mono ?_;rintro e _ ⟨rfl,rfl⟩)|(go_at_call 248;refine(htk _).mono ?_;rintro e w1 ⟨rfl,hb1⟩)|(go_at_call 251;refine(zel c _ hlo (by omega)).mono ?_;rintro e w2 ⟨rfl,hb2⟩))
    go_ret2
    rw[hr'.out];simp only[zsq,HC.out];exact⟨rfl,thn2 (thn2 hbw hb1) hb2⟩
  ·have hr':Hid (R=none):=by show _=_;rw[hR.out,show x.letters.size-k=0 by omega];rfl
   go_wp2_with fail
   go_ret2
   rw[hr'.out];exact⟨rfl,hbw⟩
def unF (f:Ty->Ty->Option Val)(n:Nat)(wf:List (Nat×Ty×ByteArray)):List (Nat×Ty×ByteArray)->Option Val
 |[]=>none
 |g::gs =>
  match wf.findIdx? (fun h=>h.1 == g.1) with
  |none=>if g.2.2.size=0 then some (.rcd (wf.map fun f=>lv n f.2.1)) else unF f n wf gs
  |some p =>
   match f ((wf.map fun h=>h.2.1).getD p (za3 0)) g.2.1 with
   |none=>unF f n wf gs
   |some u=>some (.rcd ((wf.map fun f=>lv n f.2.1).set p u))
def zda (f g:Ty->Ty->Option Val)(n:Nat)(w r:Ty):Option Val :=
 if w.kind=63/\r.kind=63 then (f w.in r.in).map Val.som
 else if r.kind=63 then g w r.in
 else if zax w.kind r.kind=true then none
 else if w.kind≠r.kind then some (lv (n+1) w)
 else if w.kind=60 then (unL w.letters r.letters r.op w.letters.size 0).map Val.cho
 else if w.kind=91 then (f w.in r.in).map fun u=>.lst [u]
 else if w.kind=123 then unF f n w.fields r.fields
 else none
def unV:Nat->Nat->Ty->Ty->Option Val
 |0,_,_,_=>none
 |_+1,0,_,_=>none
 |m+1,n+1,w,r=>zda (unV m n) (unV m (n+1)) n w r
def uR:Option ByteArray->Value
 |some t=>.tuple #[.string t,.bool true]
 |none=>.tuple #[.string xe,.bool false]
theorem zrv {n:Nat}{ty:Ty}{p:Nat}{u:Val}{g:Nat×Ty×ByteArray}(hg:ty.fields[p]?=some g):rwT (fun t=>txtV n t (lv n t)) (txtV n g.2.1 u) (p:Nat) ty.fields 0 ⟨#[123]⟩ xe=txtV (n+1) ty (.rcd ((ty.fields.map fun f=>lv n f.2.1).set p u)):=by
 rw[zdh];refine zfn (fun t=>txtV n t (lv n t)) (txtV n) _ _ ty.fields _ 0 _ _ (by simp) (fun i g' v hg' hv=>?_);rw[xv];by_cases hi:i=p
 ·subst hi;rw[if_pos rfl];rw[hg]at hg';cases hg';rw[List.getElem?_set_self (by rcases Nat.lt_or_ge i ty.fields.length with h|h;simpa using h;rw[List.getElem?_eq_none h]at hg;cases hg)]at hv;cases hv;rfl
 ·rw[if_neg (by omega)];rw[List.getElem?_set_ne (by omega),xg,hg']at hv;simp at hv;rw[<- hv]
theorem zkk {fs:List (Nat×Ty×ByteArray)}{p:Nat}{g:Nat×Ty×ByteArray}(h:fs[p]?=some g):(fs.map fun h=>h.2.1).getD p (za3 0)=g.2.1:=by
 rw[List.getD_eq_getElem?_getD,xg,h];rfl
theorem zlz {f:Ty->Ty->Option Val}{n:Nat}{ty:Ty}(hf:∀ (g:Nat×Ty×ByteArray) r u,g∈ty.fields->f g.2.1 r=some u->(txtV n g.2.1 u).size<=wt n g.2.1):∀ (gs:List (Nat×Ty×ByteArray)) (u:Val),unF f n ty.fields gs=some u->(txtV (n+1) ty u).size<=wt (n+1) ty
 |[],u,h=>by simp[unF]at h
 |g::gs,u,h=>by
  have h70:=zha n ty;have he:ByteArray.empty.size=0:=rfl;rw[unF]at h;split at h
  ·split at h
   ·cases h;rw[zdh,<- zfn (fun t=>txtV n t (lv n t)) (txtV n) ⟨#[]⟩ (-1) ty.fields _ 0 _ _ (by simp) (fun i g v hg hv=>by
        rw[xg,hg]at hv;simp at hv;rw[if_neg (by omega),<- hv])]
    have:=zil (f:=fun t=>txtV n t (lv n t)) (x:=⟨#[]⟩) (p:=-1) (c:=fun f=>wt n f.2.1+f.2.2.size+4) ty.fields 0 ⟨#[123]⟩ xe rfl (fun i g hg=>by
        rw[if_neg (by omega)];have:=zgo n g.2.1;omega)
    rw[wt];omega
   ·exact zlz hf gs u h
  ·rename_i p hp;rw[xh]at hp;obtain⟨hpl,_⟩:=hp;obtain⟨q,hq⟩:∃ q,ty.fields[p]?=some q:=⟨ty.fields[p],xf hpl⟩;rw[zkk hq]at h;split at h
   ·exact zlz hf gs u h
   ·rename_i v hv;cases h;rw[<- zrv hq];have h1:=hf q _ v (xp hq) hv;have:=zil (f:=fun t=>txtV n t (lv n t)) (x:=txtV n q.2.1 v) (p:=(p:Nat)) (c:=fun f=>wt n f.2.1+f.2.2.size+4) ty.fields 0 ⟨#[123]⟩ xe rfl (fun i g hg=>by
     rw[xv];by_cases hi:i=p
     ·subst hi;rw[if_pos rfl];rw[hq]at hg;cases hg;omega
     ·rw[if_neg (by omega)];have:=zgo n g.2.1;omega)
    rw[wt];omega
theorem wtI {m:Nat}{r:Ty}(h:r.inner≠[]):wt m r.in+70<=wt (m+1) r:=by
 unfold Ty.in;rcases hi:r.inner with _|⟨t,ts⟩
 ·exact absurd hi h
 ·rw[wt,hi];simp;omega
theorem zfu:∀ (m n:Nat) (x r:Ty) (u:Val),tyK n x->unV m n x r=some u->(txtV n x u).size<=wt n x
 |0,n,x,r,u,hk,h=>by simp[unV]at h
 |m+1,0,x,r,u,hk,h=>by simp[unV]at h
 |m+1,n+1,x,r,u,hk,h=>by
  have h70:=zha n x;change zda (unV m n) (unV m (n+1)) n x r=some u at h;unfold zda at h;split at h
  ·rename_i hc;obtain⟨v,hv,rfl⟩:=xj.1 h;have hi:=hk.2.2.1 (.inr hc.1);have:=zfu m n x.in r.in v hi.2 hv;have:=wtI (m:=n) hi.1;rw[ze9];omega
  ·split at h
   ·exact zfu m (n+1) x r.in u hk h
   ·split at h
    ·cases h
    ·split at h
     ·cases h;exact zgo (n+1) x
     ·split at h
      ·obtain⟨v,hv,rfl⟩:=xj.1 h;rw[zdy,zak];omega
      ·split at h
       ·rename_i h91;obtain⟨v,hv,rfl⟩:=xj.1 h;have hi:=hk.2.2.1 (.inl h91);have:=zfu m n x.in r.in v hi.2 hv;have:=wtI (m:=n) hi.1;rw[zeb];show (⟨#[91]⟩++txtV n x.in v++⟨#[93]⟩:ByteArray).size<=_;have e1:(⟨#[91]⟩:ByteArray).size=1:=rfl;have e2:(⟨#[93]⟩:ByteArray).size=1:=rfl;rw[xm,xm];omega
       ·split at h
        ·exact zlz (fun g r u hg hu=>zfu m n g.2.1 r u (hk.2.2.2 g hg).2 hu) _ u h
        ·cases h
def zhi (m:Nat):Prop:=∀ (nw nr:Nat) (x r:Ty) (w:World) (ai af:Option Addr) (li ci lf cf:Nat) (bi bf:Option Addr) (mi di mf df:Nat),nw+nr<=m->tyK nw x->wt nw x<=20000->Rep nw w ai li ci af lf cf x->Rep nr w bi mi di bf mf df r ->
 Calls Tryz.prog 179 #[.agg #[.int .i64 x.kind,.string x.letters,.bool x.op,.slice ai li ci,.slice af lf cf],.agg #[.int .i64 r.kind,.string r.letters,.bool r.op,.slice bi mi di,.slice bf mf df]] w fun e w'=>e=.returned (uR ((unV m nw x r).map (txtV nw x)))/\Below w.heap.size w w'
theorem zst (x r:Ty)(w:World)(ai:Option Addr)(li ci:Nat)(af:Option Addr)(lf cf:Nat)(bi:Option Addr)(mi di:Nat)(bf:Option Addr)(mf df:Nat)(y:ByteArray)(b:Bool)(hy:y.size<=20000)
  (h:∀ W,Below w.heap.size w W->Calls Tryz.prog 179 #[.agg #[.int .i64 x.kind,.string x.letters,.bool x.op,.slice ai li ci,.slice af lf cf],.agg #[.int .i64 r.kind,.string r.letters,.bool r.op,.slice bi mi di,.slice bf mf df]] W fun e w'=>e=.returned (.tuple #[.string y,.bool b])/\Below W.heap.size W w') :
  Calls Tryz.prog 230 #[.agg #[.int .i64 x.kind,.string x.letters,.bool x.op,.slice ai li ci,.slice af lf cf],.agg #[.int .i64 r.kind,.string r.letters,.bool r.op,.slice bi mi di,.slice bf mf df]] w fun e w'=>e=.returned (if b=true then .tuple #[.string (⟨#[91]⟩++y++⟨#[93]⟩),.bool true] else .tuple #[.string xe,.bool false])/\Below w.heap.size w w':=by
 have hB:∀ o o2,Below w.heap.size w ((w.alloc o).alloc o2):=fun o o2=>((Below.refl _ _).alloc (xo _) _).alloc (by simp) _;have e1:(⟨#[91]⟩:ByteArray).size=1:=rfl;have e2:(⟨#[93]⟩:ByteArray).size=1:=rfl;have e3:(⟨#[91]⟩++y:ByteArray).size=1+y.size:=by rw[xm,e1]
 cases b with
 |true =>
  rw[if_pos rfl]
  go_enter Tryz.func230,Tryz.ntmps230
  go_wp2_with (first|(go_at_call 179;refine(h _ (hB _ _)).mono ?_;rintro e w1 ⟨rfl,hb1⟩))
  go_ret2
  exact⟨rfl,thn2 (hB _ _) hb1⟩
 |false =>
  rw[if_neg (by simp)]
  go_enter Tryz.func230,Tryz.ntmps230
  go_wp2_with (first|(go_at_call 179;refine(h _ (hB _ _)).mono ?_;rintro e w1 ⟨rfl,hb1⟩))
  go_ret2
  exact⟨rfl,thn2 (hB _ _) hb1⟩
theorem yaag (c:Nat)(fs:List (Nat×Ty×ByteArray)):(plF fs c=-1/\fs.findIdx? (fun g=>g.1 == c)=none)\/∃ i f,plF fs c=(i:Nat)/\i<fs.length/\fs[i]?=some f/\fs.findIdx? (fun g=>g.1 == c)=some i:=by
 unfold plF;cases hx:fs.findIdx? (fun g=>g.1 == c) with
 |none=>exact .inl ⟨rfl,rfl⟩
 |some i =>
  have:=hx;rw[xh]at this;exact .inr ⟨i,fs[i]'this.1,rfl,this.1,xf this.1,rfl⟩
theorem zx0 {d:ByteArray}(h:1<=d.size):d.toList.isEmpty=false:=by
 rw[xy];cases hl:d.data.toList with
 |nil =>
  have h2:d.data.size=0:=by rw[<- Array.length_toList,hl];rfl
  have h3:d.size=d.data.size:=rfl;omega
 |cons _ _=>rfl
theorem zek {W w1:World}(hb:Below W.heap.size W w1){b o0 o1 o2 o3 o4:Nat}{v0 v1 v2 v3 v4:Value}(h:W.cell? ⟨b,o0,none⟩=some v0/\W.cell? ⟨b,o1,none⟩=some v1/\W.cell? ⟨b,o2,none⟩=some v2/\W.cell? ⟨b,o3,none⟩=some v3/\W.cell? ⟨b,o4,none⟩=some v4) :
  w1.cell? ⟨b,o0,none⟩=some v0/\w1.cell? ⟨b,o1,none⟩=some v1/\w1.cell? ⟨b,o2,none⟩=some v2/\w1.cell? ⟨b,o3,none⟩=some v3/\w1.cell? ⟨b,o4,none⟩=some v4:=by
 obtain⟨h0,h1,h2,h3,h4⟩:=h;exact⟨zab hb h0,zab hb h1,zab hb h2,zab hb h3,zab hb h4⟩
theorem zpo {W:World}(o:Obj){b o0 o1 o2 o3 o4:Nat}{v0 v1 v2 v3 v4:Value}(h:W.cell? ⟨b,o0,none⟩=some v0/\W.cell? ⟨b,o1,none⟩=some v1/\W.cell? ⟨b,o2,none⟩=some v2/\W.cell? ⟨b,o3,none⟩=some v3/\W.cell? ⟨b,o4,none⟩=some v4) :
  (W.alloc o).cell? ⟨b,o0,none⟩=some v0/\(W.alloc o).cell? ⟨b,o1,none⟩=some v1/\(W.alloc o).cell? ⟨b,o2,none⟩=some v2/\(W.alloc o).cell? ⟨b,o3,none⟩=some v3/\(W.alloc o).cell? ⟨b,o4,none⟩=some v4:=by
 obtain⟨h0,h1,h2,h3,h4⟩:=h;exact⟨zah _ h0,zah _ h1,zah _ h2,zah _ h3,zah _ h4⟩
theorem box7 (w:World)(gf:Nat×Ty×ByteArray)(bi:Option Addr)(mi di:Nat)(bf:Option Addr)(mf df:Nat) :
  (w.alloc (.cells #[.int .i64 gf.1,.int .i64 gf.2.1.kind,.string gf.2.1.letters,.bool gf.2.1.op,.slice bi mi di,.slice bf mf df,.string gf.2.2] 315)).cell? ⟨w.heap.size,1,none⟩=some (.int .i64 gf.2.1.kind)/\(w.alloc (.cells #[.int .i64 gf.1,.int .i64 gf.2.1.kind,.string gf.2.1.letters,.bool gf.2.1.op,.slice bi mi di,.slice bf mf df,.string gf.2.2] 315)).cell? ⟨w.heap.size,2,none⟩=some (.string gf.2.1.letters)/\(w.alloc (.cells #[.int .i64 gf.1,.int .i64 gf.2.1.kind,.string gf.2.1.letters,.bool gf.2.1.op,.slice bi mi di,.slice bf mf df,.string gf.2.2] 315)).cell? ⟨w.heap.size,3,none⟩=some (.bool gf.2.1.op)/\(w.alloc (.cells #[.int .i64 gf.1,.int .i64 gf.2.1.kind,.string gf.2.1.letters,.bool gf.2.1.op,.slice bi mi di,.slice bf mf df,.string gf.2.2] 315)).cell? ⟨w.heap.size,4,none⟩=some (.slice bi mi di)/\(w.alloc (.cells #[.int .i64 gf.1,.int .i64 gf.2.1.kind,.string gf.2.1.letters,.bool gf.2.1.op,.slice bi mi di,.slice bf mf df,.string gf.2.2] 315)).cell? ⟨w.heap.size,5,none⟩=some (.slice bf mf df) :=
 ⟨zam rfl rfl,zam rfl rfl,zam rfl rfl,zam rfl rfl,zam rfl rfl⟩
theorem yaeo {m:Nat}(IH:zhi m)(nw nr:Nat)(hm:nw+nr<=m)(x:Ty)(gs:List (Nat×Ty×ByteArray))(w:World)(af bf:Option Addr)(lf cf mf df:Nat)(hlf:lf=x.fields.length)(hmf:mf=gs.length)(hfl:x.fields.length<=9000000)(hgl:gs.length<=9000000)(hfn:x.fields≠[])(hk:∀ f∈x.fields,f.1<256/\tyK nw f.2.1)
  (hwt:(x.fields.map fun f=>wt nw f.2.1+f.2.2.size+4).sum<=20000) (hr:RepF nw w af x.fields) (hrg:RepF nr w bf gs) :
  Calls Tryz.prog 231 #[.slice af lf cf,.slice bf mf df] w fun e w'=>e=.returned (uR ((unF (unV m nw) nw x.fields gs).map (txtV (nw+1) x)))/\Below w.heap.size w w':=by
 subst hlf hmf;rcases hr with⟨hr,_⟩|⟨g,rfl,hcells⟩
 ·exact absurd hr hfn
 obtain⟨R,hR⟩:∃ R,R=unF (unV m nw) nw x.fields gs:=⟨_,rfl⟩;rw[<- hR];have HR:Hid (R=unF (unV m nw) nw x.fields (gs.drop 0)):=hR;clear hR;have hrf:∀ W,Below w.heap.size w W->RepF nw W (some ⟨g,0,none⟩) x.fields:=fun W hb=>.inr ⟨g,rfl,fun i f hi=>by
  obtain⟨p1,p2,p3,q1,q2,q3,h0,k0,k1,k2,k3,k4,k5,k6⟩:=hcells i f hi;exact⟨p1,p2,p3,q1,q2,q3,h0.keep hb,zab hb k0,zab hb k1,zab hb k2,zab hb k3,zab hb k4,zab hb k5,zab hb k6⟩⟩
 go_enter Tryz.func231,Tryz.ntmps231
 go_wp2_with fail
 go_loopw [13] (fun vi wr=>∃ (i:Nat),i<=gs.length/\vi=.int .i64 i/\Hid (R=unF (unV m nw) nw x.fields (gs.drop i))/\Below w.heap.size w wr) (fun i _=>gs.length-(intOf i).toNat)
 case atStart=>exact⟨0,xu _,rfl,HR,Below.refl _ _⟩
 case round =>
  obtain⟨i,hi,rfl,hR,hb⟩:=hrel;by_cases hlt:i<gs.length
  ·obtain⟨gf,hf⟩:∃ f,gs[i]?=some f:=⟨gs[i],xf hlt⟩;have hdrop:gs.drop i=gf::gs.drop (i+1):=by
    rw[List.drop_eq_getElem_cons hlt];rw[xf hlt]at hf;simp at hf;rw[hf]
   rcases hrg with⟨hrg,_⟩|⟨h,rfl,hcellg⟩
   ·rw[hrg]at hf;simp at hf
   obtain⟨p1,p2,p3,q1,q2,q3,hrep,k0,k1,k2,k3,k4,k5,k6⟩:=hcellg i gf hf;have k0:=zab hb k0;have k1:=zab hb k1;have k2:=zab hb k2;have k3:=zab hb k3;have k4:=zab hb k4;have k5:=zab hb k5;have k6:=zab hb k6;have hg':h<wr.heap.size:=zag k0;have hBa:∀ o,Below wr.heap.size wr (wr.alloc o):=fun o=>(Below.refl _ _).alloc (xo _) _;have hpl:∀ o,Calls Tryz.prog 284 #[.slice (some ⟨g,0,none⟩) x.fields.length cf,.int .i64 gf.1] (wr.alloc o) fun e w'=>e=.returned (.int .i64 (plF x.fields gf.1))/\Below (wr.alloc o).heap.size (wr.alloc o) w':=fun o =>
    zk6 x.fields gf.1 (wr.alloc o) g cf hfl (fun i f hi=>by
     obtain⟨a1,a2,a3,b1,b2,b3,_,c0,c1,c2,c3,c4,c5,c6⟩:=hcells i f hi;have hq:=thn2 hb (hBa o);exact⟨a1,a2,a3,b1,b2,b3,zab hq c0,zab hq c1,zab hq c2,zab hq c3,zab hq c4,zab hq c5,zab hq c6⟩)
   rcases yaag gf.1 x.fields with⟨hp1,hp2⟩|⟨p,f,hp1,hpl',hpf,hp2⟩
   ·rw[hp1]at hpl;by_cases hz:gf.2.2.size=0
    ·have hze:gf.2.2=xe:=zfa hz (fun i hi=>by omega);have hr':Hid (R=some (.rcd (x.fields.map fun f=>lv nw f.2.1))):=by show _=_;rw[hR.out,hdrop,unF,hp2];simp only;rw[if_pos hz]
     have hlr:=fun (W:World) (hb':Below w.heap.size w W)=>zpd (zgm nw) x.fields W (some ⟨g,0,none⟩) x.fields.length cf rfl hfl hk hwt (hrf W hb');have HT:Hid (rwT (fun t=>txtV nw t (lv nw t)) ⟨#[]⟩ (-1) x.fields 0 ⟨#[123]⟩ xe=txtV (nw+1) x (.rcd (x.fields.map fun f=>lv nw f.2.1))):=by
      show _=_;rw[zdh];exact zfn (fun t=>txtV nw t (lv nw t)) (txtV nw) ⟨#[]⟩ (-1) x.fields _ 0 _ _ (by simp) (fun i g v hg hv=>by rw[xg,hg]at hv;simp at hv;rw[if_neg (by omega),<- hv])
     rw[HT.out]at hlr;obtain⟨Y,hY⟩:∃ Y,Y=txtV (nw+1) x (.rcd (x.fields.map fun f=>lv nw f.2.1)):=⟨_,rfl⟩;rw[<- hY]at hlr;have HY:Hid (txtV (nw+1) x (.rcd (x.fields.map fun f=>lv nw f.2.1))=Y):=hY.symm;rw[hze]at k6;clear hdrop hf hcellg hcells hR hp1 hp2 hz hY HT
     go_wp2_with (first|(go_at_call 284;refine(hpl _).mono ?_;rintro e w1 ⟨rfl,hb1⟩;obtain⟨hc1,hf1⟩:=zap hb1;have hz1:wr.heap.size<w1.heap.size:=(by have:=hb1.size;simp at this;omega))|(go_at_call 283;refine(hlr _ (thn2 (thn2 hb (hBa _)) hb1)).mono ?_;rintro e w2 ⟨rfl,hb2⟩))
     go_ret2
     rw[hr'.out];simp only[xq,uR,HY.out];exact⟨rfl,thn2 (thn2 (thn2 hb (hBa _)) hb1) hb2⟩
    ·have hr':Hid (R=unF (unV m nw) nw x.fields (gs.drop (i+1))):=by show _=_;rw[hR.out,hdrop,unF,hp2];simp only;rw[if_neg hz]
     have hE:gf.2.2.toList.isEmpty=false:=zx0 (by omega);clear hdrop hf hcellg hcells hR hp1 hp2 hz
     go_wp2_with (first|(go_at_call 284;refine(hpl _).mono ?_;rintro e w1 ⟨rfl,hb1⟩;obtain⟨hc1,hf1⟩:=zap hb1;have hz1:wr.heap.size<w1.heap.size:=(by have:=hb1.size;simp at this;omega)))
     go_roundw
     case rel=>exact⟨i+1,by omega,by go_num,hr',thn2 (thn2 hb (hBa _)) hb1⟩
     case measure=>simp[intOf];omega
   ·rw[hp1]at hpl;obtain⟨a1,a2,a3,b1,b2,b3,hrepf,c0,c1,c2,c3,c4,c5,c6⟩:=hcells p f hpf;have hkf:=hk f (xp hpf);have hwf:wt nw f.2.1<=20000:=by
     have:=zlr (fun f:Nat×Ty×ByteArray=>wt nw f.2.1+f.2.2.size+4) 20000 x.fields f (xp hpf) hwt;omega
    have hun:=fun (W:World) (hb':Below wr.heap.size wr W)=>IH nw nr f.2.1 gf.2.1 W a1 b1 a2 a3 b2 b3 p1 q1 p2 p3 q2 q3 hm hkf.2 hwf (hrepf.keep (thn2 hb hb')) (hrep.keep (thn2 hb hb'));have c0':=zab hb c0;have hgw:g<wr.heap.size:=zag c0';have k71:wr.cell? ⟨g,p*7+1,none⟩=some (.int .i64 f.2.1.kind)/\wr.cell? ⟨g,p*7+2,none⟩=some (.string f.2.1.letters)/\wr.cell? ⟨g,p*7+3,none⟩=some (.bool f.2.1.op)/\wr.cell? ⟨g,p*7+4,none⟩=some (.slice a1 a2 a3)/\wr.cell? ⟨g,p*7+5,none⟩=some (.slice b1 b2 b3):=⟨zab hb c1,zab hb c2,zab hb c3,zab hb c4,zab hb c5⟩;have hgd:=zkk hpf;cases hy:unV m nw f.2.1 gf.2.1 with
    |none =>
     have hr':Hid (R=unF (unV m nw) nw x.fields (gs.drop (i+1))):=by show _=_;rw[hR.out,hdrop,unF,hp2];simp only;rw[hgd,hy]
     rw[hy]at hun;simp only[Option.map_none,uR]at hun;clear hdrop hf hcellg hcells hR hp1 hp2 hy hgd hrepf c0 c1 c2 c3 c4 c5 c6 c0' hkf hwf hk hwt hpf
     go_wp2_with (first|(go_at_call 284;refine(hpl _).mono ?_;rintro e w1 ⟨rfl,hb1⟩;obtain⟨hc1,hf1⟩:=zap hb1;have hz1:wr.heap.size<w1.heap.size:=(by have:=hb1.size;simp at this;omega)))
     have e5:=zek hb1 (box7 wr gf p1 p2 p3 q1 q2 q3);have e7:=zek hb1 (zpo (.cells #[.int .i64 gf.1,.int .i64 gf.2.1.kind,.string gf.2.1.letters,.bool gf.2.1.op,.slice p1 p2 p3,.slice q1 q2 q3,.string gf.2.2] 315) k71)
     go_region_held3 (fun w'=>(w'.cell? ⟨wr.heap.size,1,none⟩=some (.int .i64 gf.2.1.kind)/\w'.cell? ⟨wr.heap.size,2,none⟩=some (.string gf.2.1.letters)/\w'.cell? ⟨wr.heap.size,3,none⟩=some (.bool gf.2.1.op)/\w'.cell? ⟨wr.heap.size,4,none⟩=some (.slice p1 p2 p3)/\w'.cell? ⟨wr.heap.size,5,none⟩=some (.slice q1 q2 q3))/\w'.cell? ⟨g,p*7+1,none⟩=some (.int .i64 f.2.1.kind)/\w'.cell? ⟨g,p*7+2,none⟩=some (.string f.2.1.letters)/\w'.cell? ⟨g,p*7+3,none⟩=some (.bool f.2.1.op)/\w'.cell? ⟨g,p*7+4,none⟩=some (.slice a1 a2 a3)/\w'.cell? ⟨g,p*7+5,none⟩=some (.slice b1 b2 b3)) (go_keep) (first|(go_at_call 179;refine(hun _ (by first|exact(thn2 (hBa _) hb1).drew|exact thn2 (hBa _) hb1)).mono ?_;rintro e w2 ⟨rfl,hb2⟩;have e5':=zek hb2 e5;have e7':=zek hb2 e7))
     go_wp2_with fail
     go_roundw
     case rel=>exact⟨i+1,by omega,by go_num,hr',thn2 (thn2 (thn2 hb (hBa _)) hb1).drew hb2⟩
     case measure=>simp[intOf];omega
    |some u =>
     have hr':Hid (R=some (.rcd ((x.fields.map fun f=>lv nw f.2.1).set p u))):=by show _=_;rw[hR.out,hdrop,unF,hp2];simp only;rw[hgd,hy]
     rw[hy]at hun;simp only[xq,uR]at hun;have hus:=zfu m nw f.2.1 gf.2.1 u hkf.2 hy;have hrw:=fun (W:World) (hb':Below w.heap.size w W)=>zri (zgm nw) x.fields (p:Nat) (txtV nw f.2.1 u) W (some ⟨g,0,none⟩) x.fields.length cf rfl hfl (by omega) hk hwt (hrf W hb');rw[zrv hpf]at hrw;obtain⟨Y,hY⟩:∃ Y,Y=txtV (nw+1) x (.rcd ((x.fields.map fun f=>lv nw f.2.1).set p u)):=⟨_,rfl⟩;rw[<- hY]at hrw;have HY:Hid (txtV (nw+1) x (.rcd ((x.fields.map fun f=>lv nw f.2.1).set p u))=Y):=hY.symm;generalize txtV nw f.2.1 u=Z at hun hrw hus;clear hdrop hf hcellg hcells hR hp1 hp2 hy hgd hrepf c0 c1 c2 c3 c4 c5 c6 c0' hkf hwf hk hwt hpf hY hus
     go_wp2_with (first|(go_at_call 284;refine(hpl _).mono ?_;rintro e w1 ⟨rfl,hb1⟩;obtain⟨hc1,hf1⟩:=zap hb1;have hz1:wr.heap.size<w1.heap.size:=(by have:=hb1.size;simp at this;omega)))
     have e5:=zek hb1 (box7 wr gf p1 p2 p3 q1 q2 q3);have e7:=zek hb1 (zpo (.cells #[.int .i64 gf.1,.int .i64 gf.2.1.kind,.string gf.2.1.letters,.bool gf.2.1.op,.slice p1 p2 p3,.slice q1 q2 q3,.string gf.2.2] 315) k71)
     go_region_held3 (fun w'=>(w'.cell? ⟨wr.heap.size,1,none⟩=some (.int .i64 gf.2.1.kind)/\w'.cell? ⟨wr.heap.size,2,none⟩=some (.string gf.2.1.letters)/\w'.cell? ⟨wr.heap.size,3,none⟩=some (.bool gf.2.1.op)/\w'.cell? ⟨wr.heap.size,4,none⟩=some (.slice p1 p2 p3)/\w'.cell? ⟨wr.heap.size,5,none⟩=some (.slice q1 q2 q3))/\w'.cell? ⟨g,p*7+1,none⟩=some (.int .i64 f.2.1.kind)/\w'.cell? ⟨g,p*7+2,none⟩=some (.string f.2.1.letters)/\w'.cell? ⟨g,p*7+3,none⟩=some (.bool f.2.1.op)/\w'.cell? ⟨g,p*7+4,none⟩=some (.slice a1 a2 a3)/\w'.cell? ⟨g,p*7+5,none⟩=some (.slice b1 b2 b3)) (go_keep) (first|(go_at_call 179;refine(hun _ (by first|exact(thn2 (hBa _) hb1).drew|exact thn2 (hBa _) hb1)).mono ?_;rintro e w2 ⟨rfl,hb2⟩;have e5':=zek hb2 e5;have e7':=zek hb2 e7))
     go_wp2_with (first|(go_at_call 285;refine(hrw _ (thn2 (thn2 (thn2 hb (hBa _)) hb1).drew hb2)).mono ?_;rintro e w3 ⟨rfl,hb3⟩))
     go_ret2
     rw[hr'.out];simp only[xq,uR,HY.out];exact⟨rfl,thn2 (thn2 (thn2 (thn2 hb (hBa _)) hb1).drew hb2) hb3⟩
  ·have hnil:gs.drop i=[]:=List.drop_of_length_le (by omega);have hr':Hid (R=none):=by show _=_;rw[hR.out,hnil,unF]
   go_wp2_with fail
   go_ret2
   rw[hr'.out];exact⟨rfl,hb⟩
end Go.Proofs.YtkkekopomiehlabGreatDoor
