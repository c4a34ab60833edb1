import Derived.Test.YtkkekopomiehlabGreatDoorEParse6
set_option linter.unusedVariables false
set_option linter.unusedSimpArgs false
set_option maxHeartbeats 40000000
open ByteArray renaming size_append->xe,empty->xf
open Nat renaming le_refl->xg,zero_le->xm,add_mul->xo
open List renaming getElem?_eq_getElem->xh
open Int renaming toNat_natCast->xj
open Go.RowKit
set_option maxRecDepth 4000
namespace Go.Proofs.YtkkekopomiehlabGreatDoor
def zch (Tab:World->Prop):Prop:=(∀ w w',Below w.heap.size w w'->Tab w->Tab w')/\∀ (n:Int) (w:World),-1000000000000000<=n->n<=1000000000000000->Tab w ->
 Calls Tryz.prog 293 #[.int .i64 n,.int .i64 10] w fun e w'=>e=.returned (.string (decI n))/\Below w.heap.size w w'
theorem yaep {s:ByteArray}{a:Nat}(h:uAt s a=none)(w:World)(hs:s.size<=9000000)(ha:a<=s.size) :
  Calls Tryz.prog 292 #[.string s,.int .i64 a] w fun e w'=>e=.returned (.tuple #[.int .i64 0,.int .i64 a,.bool false])/\w=w':=by
 have:=zsu s a w hs ha;rw[h]at this;exact this.mono (fun _ _ ⟨h1,h2⟩=>⟨h1,h2.symm⟩)
theorem yaeq {s:ByteArray}{a u k:Nat}(h:uAt s a=some (u,k))(w:World)(hs:s.size<=9000000)(ha:a<=s.size) :
  Calls Tryz.prog 292 #[.string s,.int .i64 a] w fun e w'=>e=.returned (.tuple #[.int .i64 u,.int .i64 k,.bool true])/\w=w':=by
 have:=zsu s a w hs ha;rw[h]at this;exact this.mono (fun _ _ ⟨h1,h2⟩=>⟨h1,h2.symm⟩)
theorem zhx {Tab:World->Prop}(F:zch Tab)(lo hi:Int)(s:ByteArray)(a:Nat)(w:World)(_hs:s.size<=9000000)(ha:a<=s.size)(hl0:-1000000000000000<=lo)(hh0:hi<=1000000000000000)(hT:Tab w) :
  Calls Tryz.prog 239 #[.int .i64 lo,.int .i64 hi,.string s,.int .i64 a] w fun e w'=>e=.returned (zbk a (zbe lo hi s a))/\Below w.heap.size w w':=by
 cases hx:uAt s a with
 |none =>
  have hr:Hid (zbe lo hi s a=none):=by show _=_;unfold zbe;rw[hx]
  have hcall:=fun w=>yaep hx w _hs ha;clear hx F hT
  go_enter Tryz.func239,Tryz.ntmps239
  go_wp2_with (go_at_call 292;refine(hcall _).mono ?_;rintro e _ ⟨rfl,rfl⟩)
  go_ret3
  rw[hr.out];exact⟨rfl,Below.refl _ _⟩
 |some p =>
  obtain⟨u,k⟩:=p;obtain⟨hu,hk1,hk2⟩:=zso hx;have hcall:=fun w=>yaeq hx w _hs ha;have hP:zbe lo hi s a=if zdb u<lo\/hi<zdb u then none else some (decI (zdb u),k):=by unfold zbe;rw[hx]
  obtain⟨v,hv⟩:∃ v,v=zdb u:=⟨_,rfl⟩;rw[<- hv]at hP;clear hx;by_cases hodd:u % 2=1
  ·have ho':((u:Int) % 2 == 1)=true:=by simp;omega
   have hv2:Hid (-((u:Int) / 2)-1=v):=by show _=_;rw[hv];unfold zdb;rw[if_pos hodd];omega
   have hform:=fun w=>F.2 v w;rw[<- hv2.out]at hform;clear hv hodd;by_cases hlo:-((u:Int) / 2)-1<lo
   ·have hr:Hid (zbe lo hi s a=none):=by show _=_;rw[hP,if_pos (.inl (by rw[<- hv2.out];exact hlo))]
    clear hP hform F hT
    go_enter Tryz.func239,Tryz.ntmps239
    go_wp2_with (go_at_call 292;refine(hcall _).mono ?_;rintro e _ ⟨rfl,rfl⟩)
    go_ret3
    rw[hr.out];exact⟨rfl,Below.refl _ _⟩
   ·by_cases hhi:hi < -((u:Int) / 2)-1
    ·have hr:Hid (zbe lo hi s a=none):=by show _=_;rw[hP,if_pos (.inr (by rw[<- hv2.out];exact hhi))]
     clear hP hform F hT
     go_enter Tryz.func239,Tryz.ntmps239
     go_wp2_with (go_at_call 292;refine(hcall _).mono ?_;rintro e _ ⟨rfl,rfl⟩)
     go_ret3
     rw[hr.out];exact⟨rfl,Below.refl _ _⟩
    ·have hr:Hid (zbe lo hi s a=some (decI (-((u:Int) / 2)-1),k)):=by show _=_;rw[hP,if_neg (by rw[<- hv2.out];omega),hv2.out]
     have hfc:=fun w=>hform w (by omega) (by omega);clear hP hform F
     go_enter Tryz.func239,Tryz.ntmps239
     go_wp2_with (first|(go_at_call 292;refine(hcall _).mono ?_;rintro e _ ⟨rfl,rfl⟩)|(go_at_call 293;refine(hfc _ hT).mono ?_;rintro e w1 ⟨rfl,hb1⟩))
     go_ret3
     rw[hr.out];exact⟨rfl,hb1⟩
  ·have ho':((u:Int) % 2 == 1)=false:=by rw[beq_eq_false_iff_ne];omega
   have hv2:Hid ((u:Int) / 2=v):=by show _=_;rw[hv];unfold zdb;rw[if_neg hodd];omega
   have hform:=fun w=>F.2 v w;rw[<- hv2.out]at hform;clear hv hodd;by_cases hlo:(u:Int) / 2<lo
   ·have hr:Hid (zbe lo hi s a=none):=by show _=_;rw[hP,if_pos (.inl (by rw[<- hv2.out];exact hlo))]
    clear hP hform F hT
    go_enter Tryz.func239,Tryz.ntmps239
    go_wp2_with (go_at_call 292;refine(hcall _).mono ?_;rintro e _ ⟨rfl,rfl⟩)
    go_ret3
    rw[hr.out];exact⟨rfl,Below.refl _ _⟩
   ·by_cases hhi:hi<(u:Int) / 2
    ·have hr:Hid (zbe lo hi s a=none):=by show _=_;rw[hP,if_pos (.inr (by rw[<- hv2.out];exact hhi))]
     clear hP hform F hT
     go_enter Tryz.func239,Tryz.ntmps239
     go_wp2_with (go_at_call 292;refine(hcall _).mono ?_;rintro e _ ⟨rfl,rfl⟩)
     go_ret3
     rw[hr.out];exact⟨rfl,Below.refl _ _⟩
    ·have hr:Hid (zbe lo hi s a=some (decI ((u:Int) / 2),k)):=by show _=_;rw[hP,if_neg (by rw[<- hv2.out];omega),hv2.out]
     have hfc:=fun w=>hform w (by omega) (by omega);clear hP hform F
     go_enter Tryz.func239,Tryz.ntmps239
     go_wp2_with (first|(go_at_call 292;refine(hcall _).mono ?_;rintro e _ ⟨rfl,rfl⟩)|(go_at_call 293;refine(hfc _ hT).mono ?_;rintro e w1 ⟨rfl,hb1⟩))
     go_ret3
     rw[hr.out];exact⟨rfl,hb1⟩
theorem znz (s:ByteArray)(a:Nat)(w:World)(_hs:s.size<=9000000)(ha:a<=s.size) :
  Calls Tryz.prog 240 #[.string s,.int .i64 a] w fun e w'=>e=.returned (zbk a (zca s a))/\w'=w:=by
 have hlo:=zhm s a;obtain⟨b,hb⟩:∃ b,b=bAt s a:=⟨_,rfl⟩;have hby:∀ w,Calls Tryz.prog 245 #[.string s,.int .i64 a] w fun e w'=>e=.returned (.int .i64 b)/\w=w':=fun w=>by
  rw[hb];exact(zba s a w _hs).mono (fun _ _ ⟨h1,h2⟩=>⟨h1,h2.symm⟩)
 have hP:zca s a=if b<0\/60<b then none else if allS s b.toNat (a+1)=true then some (quo++s.extract (a+1) (a+1+b.toNat)++quo,a+1+b.toNat) else none:=by rw[hb];rfl
 rw[<- hb]at hlo;by_cases h0:b<0
 ·have hr:Hid (zca s a=none):=by show _=_;rw[hP,if_pos (.inl h0)]
  clear hP hb
  go_enter Tryz.func240,Tryz.ntmps240
  go_wp2_with (go_at_call 245;refine(hby _).mono ?_;rintro e _ ⟨rfl,rfl⟩)
  go_ret3
  rw[hr.out];exact⟨rfl,rfl⟩
 ·by_cases h60:60<b
  ·have hr:Hid (zca s a=none):=by show _=_;rw[hP,if_pos (.inr h60)]
   clear hP hb
   go_enter Tryz.func240,Tryz.ntmps240
   go_wp2_with (go_at_call 245;refine(hby _).mono ?_;rintro e _ ⟨rfl,rfl⟩)
   go_ret3
   rw[hr.out];exact⟨rfl,rfl⟩
  ·obtain⟨L,rfl⟩:∃ L:Nat,b=L:=⟨b.toNat,by omega⟩;rw[if_neg (by omega)]at hP;simp only[xj]at hP;have hal:a<s.size:=zaw (by omega);obtain⟨R,hR⟩:∃ R,R=allS s L (a+1):=⟨_,rfl⟩;rw[<- hR]at hP;have HP:Hid (zca s a=if R=true then some (quo++s.extract (a+1) (a+1+L)++quo,a+1+L) else none):=hP;have HR:Hid (R=allS s L (a+1)):=hR;clear hP hR hb
   go_enter Tryz.func240,Tryz.ntmps240
   go_wp2_with (go_at_call 245;refine(hby _).mono ?_;rintro e _ ⟨rfl,rfl⟩)
   clear hby
   go_loop [10] (fun v=>∃ k:Nat,a+1<=k/\k<=a+1+L/\k<=s.size/\v=.int .i64 k/\Hid (R=allS s (a+1+L-k) k)) (fun v=>a+1+L-(intOf v).toNat)
   case atStart=>exact⟨a+1,xg _,by omega,by omega,by go_num,by rw[show a+1+L-(a+1)=L by omega];exact HR⟩
   case round =>
    obtain⟨k,hk1,hk2,hks,rfl,hp⟩:=hrel;by_cases hlt:k<a+1+L
    ·have hlt':(k:Int)<(a:Int)+1+(L:Int):=by omega
     have hstep:Hid (R=(inS (bAt s k)&&allS s (a+1+L-(k+1)) (k+1))):=by
      show _=_;rw[hp.out,show a+1+L-k=(a+1+L-(k+1))+1 by omega];rfl
     cases hd:inS (bAt s k) with
     |true =>
      have hkl:=zkl hd;have hp2:Hid (R=allS s (a+1+L-(k+1)) (k+1)):=by show _=_;rw[hstep.out,hd];rfl
      go_wp2_with (first|(go_at_call 245;refine(zan _ _ _ (by omega) _hs).mono ?_;rintro e w' ⟨rfl,rfl⟩)|(go_at_call 294;refine(zfg _ _).mono ?_;rintro e w' ⟨rfl,rfl⟩))
      go_round
      case rel=>exact⟨k+1,by omega,by omega,by omega,by go_num,hp2⟩
      case measure=>simp[intOf];omega
     |false =>
      have hr:Hid (zca s a=none):=by show _=_;rw[HP.out,hstep.out,hd];rfl
      clear hstep HP
      go_wp2_with (first|(go_at_call 245;refine(zan _ _ _ (by omega) _hs).mono ?_;rintro e w' ⟨rfl,rfl⟩)|(go_at_call 294;refine(zfg _ _).mono ?_;rintro e w' ⟨rfl,rfl⟩))
      go_ret3
      rw[hr.out];exact⟨rfl,rfl⟩
    ·have hlt':¬ (k:Int)<(a:Int)+1+(L:Int):=by omega
     have hRt:R=true:=by rw[hp.out,show a+1+L-k=0 by omega];rfl
     have hr:Hid (zca s a=some (quo++s.extract (a+1) (a+1+L)++quo,a+1+L)):=by show _=_;rw[HP.out,if_pos hRt]
     have hsx:=size_extract s (a+1) (a+1+L) (by omega) (by omega);have hq1:(⟨#[34]⟩:ByteArray).size=1:=rfl;have hsy:((⟨#[34]⟩:ByteArray)++s.extract (a+1) (a+1+L)).size=1+L:=by rw[xe,hq1,hsx];omega
     clear HP hRt hp
     go_wp2_with (go_at_call 247;refine(zr0 s _ _ _ (by omega) (by omega) (by omega) _hs).mono ?_;rintro e w' ⟨rfl,rfl⟩)
     go_ret3
     rw[hr.out];refine⟨ret3 (zsw ?_) (zdc ?_) rfl,rfl⟩
     ·rfl
     ·omega
theorem zu4 (s:ByteArray)(w:World)(_hs:s.size<=9000000) :
  Calls Tryz.prog 245 #[.string s,.int .i64 (-1)] w fun e w'=>e=.returned (.int .i64 (-1))/\w=w':=by
 go_enter Tryz.func245,Tryz.ntmps245
 go_wp2
 go_ret;exact⟨rfl,rfl⟩
theorem znv (l s:ByteArray)(a:Nat)(w:World)(_hs:s.size<=9000000)(hl:l.size<=8)(ha:a<=s.size) :
  Calls Tryz.prog 241 #[.string l,.string s,.int .i64 a] w fun e w'=>e=.returned (zbk a (zcv l s a))/\Below w.heap.size w w':=by
 have hlo:=zhm s a;obtain⟨b,hb⟩:∃ b,b=bAt s a:=⟨_,rfl⟩;have hby:∀ w,Calls Tryz.prog 245 #[.string s,.int .i64 a] w fun e w'=>e=.returned (.int .i64 b)/\w=w':=fun w=>by
  rw[hb];exact(zba s a w _hs).mono (fun _ _ ⟨h1,h2⟩=>⟨h1,h2.symm⟩)
 have hP:zcv l s a=if b<0\/bAt l b.toNat<0 then none else some (oneB (bAt l b.toNat).toNat,a+1):=by rw[hb];rfl
 rw[<- hb]at hlo;clear hb;obtain⟨c,hc⟩:∃ c,c=(if b<0 then -1 else bAt l b.toNat):=⟨_,rfl⟩;have hcc:=zeq l b.toNat;have hcl:=zhm l b.toNat;have hby2:∀ w,Calls Tryz.prog 245 #[.string l,.int .i64 b] w fun e w'=>e=.returned (.int .i64 c)/\w=w':=fun w=>by
  by_cases h0:b<0
  ·rw[hc,if_pos h0,show b=-1 by omega];exact zu4 l w (by omega)
  ·rw[hc,if_neg h0];exact(zan l b w (by omega) (by omega)).mono (fun _ _ ⟨h1,h2⟩=>⟨h1,h2.symm⟩)
 have hc255:c<=255:=by rw[hc];split<;>omega
 have hP2:zcv l s a=if c<0 then none else some (oneB c.toNat,a+1):=by
  rw[hP,hc];by_cases h0:b<0
  ·rw[if_pos (.inl h0),if_pos h0,if_pos (by omega)]
  ·rw[if_neg h0];by_cases h1:bAt l b.toNat<0
   ·rw[if_pos (.inr h1),if_pos h1]
   ·rw[if_neg (by omega),if_neg h1]
 clear hP hc hcc hcl;by_cases hc0:c<0
 ·have hr:Hid (zcv l s a=none):=by show _=_;rw[hP2,if_pos hc0]
  clear hP2;have tok1:True:=trivial
  go_enter Tryz.func241,Tryz.ntmps241
  go_wp2_with (first|(go_at_call 245;have _t:=tok1;refine(hby _).mono ?_;rintro e _ ⟨rfl,rfl⟩;clear tok1)|(go_at_call 245;refine(hby2 _).mono ?_;rintro e _ ⟨rfl,rfl⟩))
  go_ret3
  rw[hr.out];exact⟨rfl,Below.refl _ _⟩
 ·have hr:Hid (zcv l s a=some (oneB c.toNat,a+1)):=by show _=_;rw[hP2,if_neg hc0]
  clear hP2;have tok1:True:=trivial
  go_enter Tryz.func241,Tryz.ntmps241
  go_wp2_with (first|(go_at_call 245;have _t:=tok1;refine(hby _).mono ?_;rintro e _ ⟨rfl,rfl⟩;clear tok1)|(go_at_call 245;refine(hby2 _).mono ?_;rintro e _ ⟨rfl,rfl⟩)|(go_at_call 251;refine(zel _ _ (by omega) (by omega)).mono ?_;rintro e w1 ⟨rfl,hb1⟩))
  go_ret3
  rw[hr.out];exact⟨rfl,hb1⟩
def okT:Nat->Ty->Prop
 |0,_=>True
 |n+1,ty=>(∀ t∈ty.inner,okT n t)/\∀ f∈ty.fields,f.1<256/\okT n f.2.1
def DecAtOK (Tab:World->Prop)(n:Nat)(s:ByteArray):Prop:=∀ (ty:Ty) (a:Nat) (w:World) (ai af:Option Addr) (li ci lf cf:Nat),a<=s.size->Tab w->okT n ty->Rep n w ai li ci af lf cf ty ->
 Calls Tryz.prog 192 #[.agg #[.int .i64 ty.kind,.string ty.letters,.bool ty.op,.slice ai li ci,.slice af lf cf],.string s,.int .i64 a] w fun e w'=>e=.returned (zbk a (dec s n ty a))/\Below w.heap.size w w'
theorem DecAtOK.no {Tab:World->Prop}{n:Nat}{s:ByteArray}(IH:DecAtOK Tab n s){ty:Ty}{a:Nat}{w:World}{ai af:Option Addr}{li ci lf cf:Nat}(hj:a<=s.size)(hT:Tab w)(hok:okT n ty)(hr:Rep n w ai li ci af lf cf ty)(hx:dec s n ty a=none) :
 Calls Tryz.prog 192 #[.agg #[.int .i64 ty.kind,.string ty.letters,.bool ty.op,.slice ai li ci,.slice af lf cf],.string s,.int .i64 a] w fun e w'=>e=.returned (.tuple #[.string xf,.int .i64 a,.bool false])/\Below w.heap.size w w':=by
 have:=IH ty a w ai af li ci lf cf hj hT hok hr;rw[hx]at this;exact this
theorem DecAtOK.yes {Tab:World->Prop}{n:Nat}{s:ByteArray}(IH:DecAtOK Tab n s){ty:Ty}{a:Nat}{w:World}{ai af:Option Addr}{li ci lf cf:Nat}(hj:a<=s.size)(hT:Tab w)(hok:okT n ty)(hr:Rep n w ai li ci af lf cf ty){d:ByteArray}{k:Nat}(hx:dec s n ty a=some (d,k)) :
 Calls Tryz.prog 192 #[.agg #[.int .i64 ty.kind,.string ty.letters,.bool ty.op,.slice ai li ci,.slice af lf cf],.string s,.int .i64 a] w fun e w'=>e=.returned (.tuple #[.string d,.int .i64 k,.bool true])/\Below w.heap.size w w':=by
 have:=IH ty a w ai af li ci lf cf hj hT hok hr;rw[hx]at this;exact this
theorem ziv {n a b c:Nat}{d:ByteArray}(h:d.size<=(4*n+c)*(b-a))(hc:c<=30)(hn:n<=100)(hb:b<=4096):d.size<=4000000:=by
 have h1:(4*n+c)*(b-a)<=430*(b-a):=Nat.mul_le_mul_right _ (by omega);omega
theorem znx {Tab:World->Prop}(F:zch Tab){n:Nat}{s:ByteArray}(IH:DecAtOK Tab n s)(hs:s.size<=4096)(hn:n<=100)(ty:Ty)(a:Nat)(w:World)(ai af:Option Addr)(li ci lf cf:Nat)(ha:a<=s.size)(hT:Tab w)(hok:okT n ty)(hr:Rep n w ai li ci af lf cf ty) :
  Calls Tryz.prog 243 #[.agg #[.int .i64 ty.kind,.string ty.letters,.bool ty.op,.slice ai li ci,.slice af lf cf],.string s,.int .i64 a] w fun e w'=>e=.returned (zbk a (zb9 (dec s n ty) s a))/\Below w.heap.size w w':=by
 have _hs:s.size<=9000000:=by omega
 have hB:∀ o,Below w.heap.size w (w.alloc o):=fun o=>(Below.refl _ _).alloc (xg _) _;by_cases hm:bAt s a=0
 ·have hm':(bAt s a == 0)=true:=by simp[hm]
  have hr':Hid (zb9 (dec s n ty) s a=some (⟨#[95]⟩,a+1)):=by show _=_;unfold zb9;rw[if_pos hm]
  clear hm
  go_enter Tryz.func243,Tryz.ntmps243
  go_wp2_with (go_at_call 245;refine(zan _ _ _ (by omega) _hs).mono ?_;rintro e w' ⟨rfl,rfl⟩)
  go_ret3
  rw[hr'.out];exact⟨rfl,hB _⟩
 ·have hm':(bAt s a == 0)=false:=by simpa using hm
  by_cases h1:bAt s a=1
  ·have h1':(bAt s a != 1)=false:=by simp[h1]
   have hal:a<s.size:=zaw (by omega);cases hx:dec s n ty (a+1) with
   |none =>
    have hr':Hid (zb9 (dec s n ty) s a=none):=by show _=_;unfold zb9;rw[if_neg hm,if_pos h1,hx]
    have hd:=fun o=>IH.no (show a+1<=s.size by omega) (F.1 _ _ (hB o) hT) hok (hr.keep (hB o)) hx;clear hm hx h1
    go_enter Tryz.func243,Tryz.ntmps243
    go_wp2_with (first|(go_at_call 245;refine(zan _ _ _ (by omega) _hs).mono ?_;rintro e w' ⟨rfl,rfl⟩)|(go_at_call 192;refine(hd _).mono ?_;rintro e w' ⟨rfl,hbw⟩))
    go_ret3
    rw[hr'.out];exact⟨rfl,(hB _).trans (hbw.mono (by simp))⟩
   |some p =>
    obtain⟨d,k⟩:=p;have hr':Hid (zb9 (dec s n ty) s a=some (d,k)):=by show _=_;unfold zb9;rw[if_neg hm,if_pos h1,hx]
    have hd:=fun o=>IH.yes (show a+1<=s.size by omega) (F.1 _ _ (hB o) hT) hok (hr.keep (hB o)) hx;clear hm hx h1
    go_enter Tryz.func243,Tryz.ntmps243
    go_wp2_with (first|(go_at_call 245;refine(zan _ _ _ (by omega) _hs).mono ?_;rintro e w' ⟨rfl,rfl⟩)|(go_at_call 192;refine(hd _).mono ?_;rintro e w' ⟨rfl,hbw⟩))
    go_ret3
    rw[hr'.out];exact⟨rfl,(hB _).trans (hbw.mono (by simp))⟩
  ·have h1':(bAt s a != 1)=true:=by simpa using h1
   have hr':Hid (zb9 (dec s n ty) s a=none):=by show _=_;unfold zb9;rw[if_neg hm,if_neg h1]
   clear hm h1
   go_enter Tryz.func243,Tryz.ntmps243
   go_wp2_with (go_at_call 245;refine(zan _ _ _ (by omega) _hs).mono ?_;rintro e w' ⟨rfl,rfl⟩)
   go_ret3
   rw[hr'.out];exact⟨rfl,hB _⟩
theorem znw {Tab:World->Prop}(F:zch Tab){n:Nat}{s:ByteArray}(IH:DecAtOK Tab n s)(hs:s.size<=4096)(hn:n<=100)(ty:Ty)(a:Nat)(w:World)(ai af:Option Addr)(li ci lf cf:Nat)(ha:a<=s.size)(hT:Tab w)(hok:okT n ty)(hr:Rep n w ai li ci af lf cf ty) :
  Calls Tryz.prog 242 #[.agg #[.int .i64 ty.kind,.string ty.letters,.bool ty.op,.slice ai li ci,.slice af lf cf],.string s,.int .i64 a] w fun e w'=>e=.returned (zbk a (zdl (dec s n ty) s a))/\Below w.heap.size w w':=by
 have _hs:s.size<=9000000:=by omega
 have hB:∀ o,Below w.heap.size w (w.alloc o):=fun o=>(Below.refl _ _).alloc (xg _) _;have hlo:=zhm s a;obtain⟨b,hb⟩:∃ b,b=bAt s a:=⟨_,rfl⟩;have hby:∀ w,Calls Tryz.prog 245 #[.string s,.int .i64 a] w fun e w'=>e=.returned (.int .i64 b)/\w=w':=fun w=>by
  rw[hb];exact(zba s a w _hs).mono (fun _ _ ⟨h1,h2⟩=>⟨h1,h2.symm⟩)
 have hP:zdl (dec s n ty) s a=if b<0\/16<b then none else zb0 (dec s n ty) b.toNat 0 (a+1) ⟨#[91]⟩:=by rw[hb];rfl
 rw[<- hb]at hlo;by_cases h0:b<0
 ·have hr':Hid (zdl (dec s n ty) s a=none):=by show _=_;rw[hP,if_pos (.inl h0)]
  clear hP hb
  go_enter Tryz.func242,Tryz.ntmps242
  go_wp2_with (go_at_call 245;refine(hby _).mono ?_;rintro e _ ⟨rfl,rfl⟩)
  go_ret3
  rw[hr'.out];exact⟨rfl,hB _⟩
 ·by_cases h16:16<b
  ·have hr':Hid (zdl (dec s n ty) s a=none):=by show _=_;rw[hP,if_pos (.inr h16)]
   clear hP hb
   go_enter Tryz.func242,Tryz.ntmps242
   go_wp2_with (go_at_call 245;refine(hby _).mono ?_;rintro e _ ⟨rfl,rfl⟩)
   go_ret3
   rw[hr'.out];exact⟨rfl,hB _⟩
  ·obtain⟨L,rfl⟩:∃ L:Nat,b=L:=⟨b.toNat,by omega⟩;rw[if_neg (by omega)]at hP;simp only[xj]at hP;have hal:a<s.size:=zaw (by omega);obtain⟨R,hR⟩:∃ R,R=zb0 (dec s n ty) L 0 (a+1) ⟨#[91]⟩:=⟨_,rfl⟩;rw[<- hR]at hP;rw[hP];have HR:Hid (R=zb0 (dec s n ty) L 0 (a+1) ⟨#[91]⟩):=hR;have hL16:(L:Int)<=16:=by omega
   clear hP hR hb h16
   go_enter Tryz.func242,Tryz.ntmps242
   go_wp2_with (go_at_call 245;refine(hby _).mono ?_;rintro e _ ⟨rfl,rfl⟩)
   clear hby
   go_loopw [10,11,12] (fun vd vb vc wr=>∃ (m c b:Nat) (d:ByteArray),c+m=L/\a+1<=b/\b<=s.size/\vc=.int .i64 c/\vb=.int .i64 b/\vd=.string d/\Hid (R=zb0 (dec s n ty) m c b d)/\Hid (d.size<=(4*n+21)*(b-a))/\Below (w.heap.size+1) (w.alloc (.cells #[.int .i64 ty.kind,.string ty.letters,.bool ty.op,.slice ai li ci,.slice af lf cf] 201)) wr) (fun _ _ c _=>17-(intOf c).toNat)
   case atStart=>exact⟨L,0,a+1,⟨#[91]⟩,by omega,xg _,hal,rfl,by go_num,rfl,HR,(by show (1:Nat)<=_;rw[show a+1-a=1 by omega];omega),Below.refl _ _⟩
   case round =>
    obtain⟨m,c,b,d,hcm,hjb,hbt,rfl,rfl,rfl,hR,hd,hb⟩:=hrel;obtain⟨hc,hf⟩:=zap hb;have hrw:Rep n wr ai li ci af lf cf ty:=(hr.keep (hB _)).keep (hb.mono (by simp));have hsw:w.heap.size+1<=wr.heap.size:=by have:=hb.size;simpa using this
    have hbw0:Below w.heap.size w wr:=(hB _).trans (hb.mono (by omega));have hTw:Tab wr:=F.1 _ _ hbw0 hT;have hs2:=ziv hd.out (by omega) hn (by omega);have one1:(⟨#[93]⟩:ByteArray).size=1:=rfl;have one2:(⟨#[44]⟩:ByteArray).size=1:=rfl;cases m with
    |zero =>
     have hcL:¬ (c:Int)<(L:Int):=by omega
     have hr':Hid (R=some (d++⟨#[93]⟩,b)):=hR
     go_wp2_with fail
     go_ret3
     rw[hr'.out];exact⟨rfl,hbw0⟩
    |succ m =>
     have hcL:(c:Int)<(L:Int):=by omega
     cases hx:dec s n ty b with
     |none =>
      have hr':Hid (R=none):=by show _=_;rw[hR.out,zb0,hx]
      have hd:=IH.no hbt hTw hok hrw hx;clear hx
      go_wp2_with (go_at_call 192;refine hd.mono ?_;rintro e w' ⟨rfl,hbw⟩)
      go_ret3
      rw[hr'.out];exact⟨rfl,hbw0.trans (hbw.mono (by omega))⟩
     |some p =>
      obtain⟨x,k⟩:=p;obtain⟨hb1,hb2,hb3⟩:=znu hx;have hsum:d.size+1+x.size<=(4*n+21)*(k-a):=by
       have h1:=zdo (C:=4*n+21) (show a<=b by omega) (show b<=k by omega);have h2:(4*n+21)*(k-b)=(4*n+20)*(k-b)+(k-b):=by rw[show 4*n+21=(4*n+20)+1 by omega,xo,Nat.one_mul]
       have:=hd.out;omega
      have hs1:=ziv hb3 (by omega) hn (by omega);have hcall:=IH.yes hbt hTw hok hrw hx;by_cases hc0:c=0
      ·subst hc0;have hr':Hid (R=zb0 (dec s n ty) m (0+1) k (d++x)):=by show _=_;rw[hR.out,zb0,hx];rfl
       have HS:Hid ((d++x).size<=(4*n+21)*(k-a)):=by show _<=_;rw[xe];omega
       clear hb3 hsum hx
       go_wp2_with (go_at_call 192;refine hcall.mono ?_;rintro e w' ⟨rfl,hbw⟩)
       go_roundw
       case rel=>exact⟨m,0+1,k,d++x,by omega,by omega,by omega,by go_num,rfl,rfl,hr',HS,hb.trans (hbw.mono (by omega))⟩
       case measure=>simp[intOf]
      ·have hc0':(0:Int)<(c:Int):=by omega
       have hr':Hid (R=zb0 (dec s n ty) m (c+1) k (d++⟨#[44]⟩++x)):=by show _=_;rw[hR.out,zb0,hx];simp only[if_pos (show 0<c by omega)]
       have hsz:(d++⟨#[44]⟩).size=d.size+1:=by rw[xe,one2]
       have HS:Hid ((d++⟨#[44]⟩++x).size<=(4*n+21)*(k-a)):=by show _<=_;rw[xe,hsz];omega
       clear hb3 hsum hx
       go_wp2_with (go_at_call 192;refine hcall.mono ?_;rintro e w' ⟨rfl,hbw⟩)
       go_roundw
       case rel=>exact⟨m,c+1,k,d++⟨#[44]⟩++x,by omega,by omega,by omega,by go_num,rfl,rfl,hr',HS,hb.trans (hbw.mono (by omega))⟩
       case measure=>simp[intOf];omega
theorem zny {Tab:World->Prop}(F:zch Tab){n:Nat}{s:ByteArray}(IH:DecAtOK Tab n s)(hs:s.size<=4096)(hn:n<=100)(fs:List (Nat×Ty×ByteArray))(a:Nat)(w:World)(af:Option Addr)(lf cf:Nat)(ha:a<=s.size)(hlf:lf=fs.length)(hfl:fs.length<=9000000)(hT:Tab w)(hok:∀ f∈fs,f.1<256/\okT n f.2.1)(hr:RepF n w af fs) :
  Calls Tryz.prog 244 #[.slice af lf cf,.string s,.int .i64 a] w fun e w'=>e=.returned (zbk a (zbp (dec s n) fs ⟨#[123]⟩ a xf))/\Below w.heap.size w w':=by
 have _hs:s.size<=9000000:=by omega
 subst hlf;obtain⟨R,hR⟩:∃ R,R=zbp (dec s n) fs ⟨#[123]⟩ a xf:=⟨_,rfl⟩;rw[<- hR];have HR:Hid (R=zbp (dec s n) fs ⟨#[123]⟩ a xf):=hR;clear hR
 go_enter Tryz.func244,Tryz.ntmps244
 go_wp2_with fail
 go_loopw [9,10,11,20] (fun vd vb vm vi wr=>∃ (i b:Nat) (mk d:ByteArray),i<=fs.length/\a<=b/\b<=s.size/\vi=.int .i64 i/\vb=.int .i64 b/\vm=.string mk/\vd=.string d/\mk.size=1/\Hid (R=zbp (dec s n) (fs.drop i) mk b d)/\Hid (d.size<=(4*n+23)*(b-a))/\Below w.heap.size w wr) (fun _ _ _ i _=>fs.length-(intOf i).toNat)
 case atStart=>exact⟨0,a,⟨#[123]⟩,xf,xm _,xg _,ha,rfl,rfl,rfl,rfl,rfl,HR,xm _,Below.refl _ _⟩
 case round =>
  obtain⟨i,b,mk,d,hi,hjb,hbt,rfl,rfl,rfl,rfl,hmk,hR,hd,hb⟩:=hrel;have hTw:Tab wr:=F.1 _ _ hb hT;have hs2:=ziv hd.out (by omega) hn (by omega);have one1:(⟨#[125]⟩:ByteArray).size=1:=rfl;have one2:(⟨#[58]⟩:ByteArray).size=1:=rfl;by_cases hlt:i<fs.length
  ·obtain⟨f,hf⟩:∃ f,fs[i]?=some f:=⟨fs[i],xh hlt⟩;have hdrop:fs.drop i=f::fs.drop (i+1):=by
    rw[List.drop_eq_getElem_cons hlt];rw[xh hlt]at hf;simp at hf;rw[hf]
   obtain⟨hf256,hokf⟩:=hok f (List.mem_of_getElem? hf);have hr0:=hr;rcases hr with⟨hr,_⟩|⟨g,rfl,hcells⟩
   ·rw[hr]at hf;simp at hf
   ·obtain⟨p1,p2,p3,q1,q2,q3,hrep,k0,k1,k2,k3,k4,k5,k6⟩:=hcells i f hf;have hg:=zag k0;have k0:=zab hb k0;have k1:=zab hb k1;have k2:=zab hb k2;have k3:=zab hb k3;have k4:=zab hb k4;have k5:=zab hb k5;have k6:=zab hb k6;have hg':g<wr.heap.size:=zag k0;have hrepw:=hrep.keep hb;have hBa:∀ o,Below wr.heap.size wr (wr.alloc o):=fun o=>(Below.refl _ _).alloc (xg _) _;have hTa:∀ o,Tab (wr.alloc o):=fun o=>F.1 _ _ (hBa o) hTw;cases hx:dec s n f.2.1 b with
    |none =>
     have hr':Hid (R=none):=by show _=_;rw[hR.out,hdrop,zbp,hx]
     have hcall:=fun o=>IH.no hbt (hTa o) hokf (hrepw.keep (hBa o)) hx;clear hx
     go_wp2_with (go_at_call 192;refine(hcall _).mono ?_;rintro e w' ⟨rfl,hbw⟩)
     go_ret3
     rw[hr'.out];exact⟨rfl,hb.trans (((hBa _).mono hb.size).trans (hbw.mono (by have:=hb.size;simp;omega)))⟩
    |some p =>
     obtain⟨x,k⟩:=p;obtain⟨hb1,hb2,hbs⟩:=znu hx;have hso:(oneB f.1).size=1:=rfl;have hz1:(mk++oneB f.1).size=2:=by rw[xe,hmk,hso]
     have hz2:(mk++oneB f.1++⟨#[58]⟩).size=3:=by rw[xe,hz1,one2]
     have hs1:=ziv hbs (by omega) hn (by omega);have hz3:(mk++oneB f.1++⟨#[58]⟩++x).size=3+x.size:=by rw[xe,hz2]
     have HS:Hid ((d++(mk++oneB f.1++⟨#[58]⟩++x)).size<=(4*n+23)*(k-a)):=by
      show _<=_;rw[xe,hz3];have e1:=zdo (C:=4*n+23) (show a<=b by omega) (show b<=k by omega);have e2:(4*n+23)*(k-b)=(4*n+20)*(k-b)+3*(k-b):=by rw[show 4*n+23=(4*n+20)+3 by omega,xo]
      have:=hd.out;omega
     have hr':Hid (R=zbp (dec s n) (fs.drop (i+1)) ⟨#[44]⟩ k (d++(mk++oneB f.1++⟨#[58]⟩++x))):=by show _=_;rw[hR.out,hdrop,zbp,hx]
     have hcall:=fun o=>IH.yes hbt (hTa o) hokf (hrepw.keep (hBa o)) hx;clear hx hbs
     go_wp2_with (first|(go_at_call 192;refine(hcall _).mono ?_;rintro e w' ⟨rfl,hbw⟩;obtain⟨hc1,hf1⟩:=zap hbw)|(go_at_call 251;refine(zdp f.1 _ (by omega)).mono ?_;rintro e w2 ⟨rfl,hbw2⟩))
     go_roundw
     case rel=>exact⟨i+1,k,⟨#[44]⟩,d++(mk++oneB f.1++⟨#[58]⟩++x),by omega,by omega,by omega,by go_num,rfl,rfl,rfl,rfl,hr',HS,hb.trans (((hBa _).mono hb.size).trans ((hbw.mono (by have:=hb.size;simp;omega)).trans (hbw2.mono (by have:=hb.size;have:=hbw.size;simp at this;omega))))⟩
     case measure=>simp[intOf];omega
  ·have hnil:fs.drop i=[]:=List.drop_of_length_le (by omega);have hr':Hid (R=some (d++⟨#[125]⟩,b)):=by show _=_;rw[hR.out,hnil,zbp]
   go_wp2_with fail
   go_ret3
   rw[hr'.out];exact⟨rfl,hb⟩
end Go.Proofs.YtkkekopomiehlabGreatDoor
