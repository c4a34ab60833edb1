import Derived.Test.YtkkekopomiehlabGreatDoorEPure
import Derived.Deep.AppendLies
import Derived.Deep.QuietTactic
import Derived.BigQuiet
set_option linter.unusedVariables false
set_option linter.unusedSimpArgs false
set_option maxHeartbeats 40000000
open ByteArray renaming size_append->xe,empty->xf
open Option.some renaming injEq->xg
open Prod.mk renaming injEq->xh
open Nat renaming le_refl->xj,mul_le_mul_right->xm,zero_le->xo,mul_le_mul_left->xq,mul_add->xu
open List renaming getElem?_eq_getElem->xp
namespace Go.Proofs.YtkkekopomiehlabGreatDoor
section
open Go.RowKit
theorem zap {B:Nat}{W w1:World}(hb:Below B W w1):(∀ b o,b<B->w1.cell? ⟨b,o,none⟩=W.cell? ⟨b,o,none⟩)/\(∀ b o,b<B->w1.frozen? ⟨b,o,none⟩=W.frozen? ⟨b,o,none⟩) :=
 ⟨fun b o h=>hb.cell (p:=⟨b,o,none⟩) h,fun b o h=>hb.frozen (p:=⟨b,o,none⟩) h⟩
theorem zag {w:World}{b o:Nat}{v:Value}(h:w.cell? ⟨b,o,none⟩=some v):b<w.heap.size:=World.block_lt_of_cell? w ⟨b,o,none⟩ h
def Rep:Nat->World->Option Addr->Nat->Nat->Option Addr->Nat->Nat->Ty->Prop
 |0,_,_,_,_,_,_,_,_=>False
 |n+1,w,ai,li,ci,af,lf,cf,ty=>ty.letters.size<=8/\ty.fields.length<=9000000/\lf=ty.fields.length/\((ty.kind=91\/ty.kind=63->ty.inner≠[])/\(ty.kind=123->ty.fields≠[])) /\
   ((ty.inner=[]/\ai=none/\li=0/\ci=0) \/
    ∃ t b p1 p2 p3 q1 q2 q3,ty.inner=[t]/\ai=some ⟨b,0,none⟩/\li=1/\Rep n w p1 p2 p3 q1 q2 q3 t /\
     w.cell? ⟨b,0,none⟩=some (.int .i64 t.kind)/\w.cell? ⟨b,1,none⟩=some (.string t.letters)/\w.cell? ⟨b,2,none⟩=some (.bool t.op)/\w.cell? ⟨b,3,none⟩=some (.slice p1 p2 p3)/\w.cell? ⟨b,4,none⟩=some (.slice q1 q2 q3)) /\
   ((ty.fields=[]/\af=none/\lf=0/\cf=0) \/
    ∃ g,af=some ⟨g,0,none⟩ /\
     ∀ i f,ty.fields[i]?=some f->∃ p1 p2 p3 q1 q2 q3,Rep n w p1 p2 p3 q1 q2 q3 f.2.1/\w.cell? ⟨g,i*7,none⟩=some (.int .i64 f.1) /\
      w.cell? ⟨g,i*7+1,none⟩=some (.int .i64 f.2.1.kind)/\w.cell? ⟨g,i*7+2,none⟩=some (.string f.2.1.letters)/\w.cell? ⟨g,i*7+3,none⟩=some (.bool f.2.1.op)/\w.cell? ⟨g,i*7+4,none⟩=some (.slice p1 p2 p3)/\w.cell? ⟨g,i*7+5,none⟩=some (.slice q1 q2 q3) /\
      w.cell? ⟨g,i*7+6,none⟩=some (.string f.2.2))
theorem zab {w w':World}(hb:Below w.heap.size w w'){b o:Nat}{v:Value}(h:w.cell? ⟨b,o,none⟩=some v):w'.cell? ⟨b,o,none⟩=some v:=by
 rw[hb.cell (p:=⟨b,o,none⟩) (zag h)];exact h
theorem Rep.keep {w w':World}(hb:Below w.heap.size w w'):∀ {n:Nat} {ai af:Option Addr} {li ci lf cf:Nat} {ty:Ty},Rep n w ai li ci af lf cf ty->Rep n w' ai li ci af lf cf ty
 |0,_,_,_,_,_,_,_,h=>h
 |n+1,ai,af,li,ci,lf,cf,ty,h=>by
  obtain⟨hl,hn,hlf,hk,hi,hf⟩:=h;refine⟨hl,hn,hlf,hk,?_,?_⟩
  ·rcases hi with hi|⟨t,b,p1,p2,p3,q1,q2,q3,h1,h2,h2',h3,k0,k1,k2,k3,k4⟩
   ·exact .inl hi
   ·exact .inr ⟨t,b,p1,p2,p3,q1,q2,q3,h1,h2,h2',Rep.keep hb h3,zab hb k0,zab hb k1,zab hb k2,zab hb k3,zab hb k4⟩
  ·rcases hf with hf|⟨g,h1,h2⟩
   ·exact .inl hf
   ·refine .inr ⟨g,h1,fun i f hi=>?_⟩;obtain⟨p1,p2,p3,q1,q2,q3,h3,k0,k1,k2,k3,k4,k5,k6⟩:=h2 i f hi;exact⟨p1,p2,p3,q1,q2,q3,Rep.keep hb h3,zab hb k0,zab hb k1,zab hb k2,zab hb k3,zab hb k4,zab hb k5,zab hb k6⟩
theorem zei (n:Nat)(w:World)(ai af:Option Addr)(li ci lf cf:Nat)(ty:Ty)(h:Rep (n+1) w ai li ci af lf cf ty)(hne:ty.inner≠[]) :
  Calls Tryz.prog 194 #[.agg #[.int .i64 ty.kind,.string ty.letters,.bool ty.op,.slice ai li ci,.slice af lf cf]] w fun e w'=>∃ p1 p2 p3 q1 q2 q3,e=.returned (.agg #[.int .i64 ty.in.kind,.string ty.in.letters,.bool ty.in.op,.slice p1 p2 p3,.slice q1 q2 q3])/\Rep n w' p1 p2 p3 q1 q2 q3 ty.in/\Below w.heap.size w w':=by
 obtain⟨hl,hn,hlf,hk,hi,hf⟩:=h;clear hf hk;rcases hi with⟨hi,_⟩|⟨t,b,p1,p2,p3,q1,q2,q3,h1,rfl,rfl,h3,k0,k1,k2,k3,k4⟩
 ·exact absurd hi hne
 ·have hin:ty.in=t:=by unfold Ty.in;rw[h1];rfl
  rw[hin];have hb:=zag k0;clear hne h1 hin hlf
  go_enter Tryz.func194,Tryz.ntmps194
  go_wp2
  have hB:Below w.heap.size w ((w.alloc (.cells #[.int .i64 ty.kind,.string ty.letters,.bool ty.op,.slice (some ⟨b,0,none⟩) 1 ci,.slice af lf cf] 201)).alloc (.cells #[.int .i64 t.kind,.string t.letters,.bool t.op,.slice p1 p2 p3,.slice q1 q2 q3] 201)) :=
   ((Below.refl _ _).alloc (xj _) _).alloc (by simp) _
  exact bodyPost_ret (v:=.agg #[.int .i64 t.kind,.string t.letters,.bool t.op,.slice p1 p2 p3,.slice q1 q2 q3]) (by simp[results,Tryz.results194,go_sem]) rfl ⟨p1,p2,p3,q1,q2,q3,rfl,h3.keep hB,hB⟩
end
theorem zak (n:Nat):(oneB n).size=1:=rfl
theorem zna:∀ (m:Nat) (acc:ByteArray) (u:Nat),(codU m acc u).size<=acc.size+m+1
 |0,acc,u=>by rw[codU,xe,zak];omega
 |m+1,acc,u=>by
  rw[codU];split
  ·have:=zna m (acc++oneB (u % 128+128)) (u / 128);rw[xe,zak]at this;omega
  ·rw[xe,zak];omega
theorem zyn (n:Int):(zcp n).size<=9:=by
 have:=zna 8 xf (zig n);unfold zcp;have e:ByteArray.empty.size=0:=rfl;omega
theorem zod {st:Bool}{lo hi:Int}{t d:ByteArray}{j k:Nat}(h:zbf st lo hi t j=some (d,k)):j<k/\k<=t.size/\d.size<=9*(k-j):=by
 unfold zbf at h;split at h
 ·cases h
 ·rename_i n e hp;have:=zqc hp;split at h
  ·cases h
  ·split at h
   ·cases h
   ·simp only[xg,xh]at h;obtain⟨rfl,rfl⟩:=h;have:=zyn n;omega
theorem zwf {t d:ByteArray}{j k:Nat}(h:zb2 t j=some (d,k)):j<k/\k<=t.size/\d.size<=9*(k-j):=by
 unfold zb2 at h;split at h
 ·simp only at h;have hle:=zdt inS t (t.size-(j+1)) (j+1);generalize zaz inS t (t.size-(j+1)) (j+1)=E at h hle;split at h
  ·rename_i hc;simp only[xg,xh]at h;obtain⟨rfl,rfl⟩:=h;have hE:E<t.size:=zaw (by omega);rw[xe,zak,size_extract t (j+1) E (by omega) (by omega)];omega
  ·cases h
 ·cases h
theorem zwa {l t d:ByteArray}{j k:Nat}(h:zde l t j=some (d,k)):j<k/\k<=t.size/\d.size<=9*(k-j):=by
 unfold zde at h;split at h
 ·cases h
 ·rename_i hc;simp only[xg,xh]at h;obtain⟨rfl,rfl⟩:=h;rw[zak];have:j<t.size:=by
   rcases Nat.lt_or_ge j t.size with h|h
   ·exact h
   ·exfalso;rw[zd0 t j h]at hc;apply hc;unfold pOf;have key:∀ m k,za6 l (-1) m k<=-1\/(k+m > l.size):=by
     intro m
     induction m with
     |zero=>intro k;left;simp[za6]
     |succ m ih =>
      intro k;rw[za6];by_cases hk:k<l.size
      ·rw[zee l k hk,if_neg (by omega)];rcases ih (k+1)with h|h
       ·exact .inl h
       ·right;omega
      ·right;omega
    rcases key l.size 0 with h|h<;>omega
  omega
def Bd (C:Nat)(T:Nat)(f:Nat->Option (ByteArray×Nat)):Prop:=∀ j d k,f j=some (d,k)->j<k/\k<=T/\d.size<=C*(k-j)
theorem zdo {C a b c:Nat}(h1:a<=b)(h2:b<=c):C*(b-a)+C*(c-b)=C*(c-a):=by
 rw[<- xu];congr 1;omega
theorem zfj {C a b:Nat}(h:a<=b):C*a<=C*b:=xq C h
theorem zpi {C a b:Nat}(hC:1<=C)(h:a<b):C*a+1<=C*b:=by
 have:=xq C (show a+1<=b by omega);rw[xu]at this;omega
theorem zn9 {C:Nat}{f:Nat->Option (ByteArray×Nat)}{t:ByteArray}(hC:1<=C)(hf:Bd C t.size f)(j:Nat) :
  ∀ (m c b:Nat) (d0 d:ByteArray) (k:Nat),j<=b->d0.size<=C*(b-j)->zbh f t m c b d0=some (d,k)->b<k/\k<=t.size/\d.size<=C*(k-j)
 |0,c,b,d0,d,k,_,_,h=>by simp[zbh]at h
 |m+1,c,b,d0,d,k,hj,h0,h=>by
  rw[zbh]at h;split at h
  ·cases h
  ·rename_i x k' hx;have hb:=hf _ _ _ hx;have hs:(d0++x).size<=C*(k'-j):=by
    rw[xe];have h1:=zdo (C:=C) (show j<=b+1 by omega) (show b+1<=k' by omega);have h2:=zfj (C:=C) (show b-j<=b+1-j by omega);omega
   split at h
   ·rename_i hc;simp only[xg,xh]at h;obtain⟨rfl,rfl⟩:=h;have hk':k'<t.size:=zaw (by omega);refine⟨by omega,by omega,?_⟩;rw[xe,zak];have:=zpi hC (show k'-j<k'+1-j by omega);omega
   ·split at h
    ·have:=zn9 hC hf j m (c+1) k' (d0++x) d k (by omega) hs h;omega
    ·cases h
theorem zwb {C:Nat}{f:Nat->Option (ByteArray×Nat)}{t:ByteArray}(hC:1<=C)(hf:Bd C t.size f):Bd C t.size (zb1 f t):=by
 intro j d k h;unfold zb1 at h;split at h
 ·split at h
  ·rename_i h1 h2;simp only[xg,xh]at h;obtain⟨rfl,rfl⟩:=h;have:j+1<t.size:=zaw (by omega);refine⟨by omega,by omega,?_⟩;rw[zak];have:=zpi hC (show 0<j+2-j by omega);omega
  ·have:=zn9 hC hf j 16 1 j xf d k (xj _) (xo _) h;omega
 ·cases h
theorem zwc {C:Nat}{f:Nat->Option (ByteArray×Nat)}{t:ByteArray}(hC:1<=C)(hf:Bd C t.size f):Bd (C+1) t.size (zbq f t):=by
 intro j d k h;unfold zbq at h;split at h
 ·rename_i h1;simp only[xg,xh]at h;obtain⟨rfl,rfl⟩:=h;have:j<t.size:=zaw (by omega);refine⟨by omega,by omega,?_⟩;rw[zak,show j+1-j=1 by omega];omega
 ·split at h
  ·cases h
  ·rename_i x k' hx;simp only[xg,xh]at h;obtain⟨rfl,rfl⟩:=h;have hb:=hf _ _ _ hx;refine⟨hb.1,hb.2.1,?_⟩;rw[xe,zak,Nat.add_mul];omega
theorem zn4 {C:Nat}{f:Ty->Nat->Option (ByteArray×Nat)}{t:ByteArray}(hC:1<=C)(hf:∀ ty,Bd C t.size (f ty))(j:Nat) :
  ∀ (fs:List (Nat×Ty×ByteArray)) (mk:Int) (b:Nat) (d0 d:ByteArray) (k:Nat),j<=b->d0.size<=C*(b-j)->za0 f t fs mk b d0=some (d,k)->b<k/\k<=t.size/\d.size<=C*(k-j)
 |[],mk,b,d0,d,k,hj,h0,h=>by
  rw[za0]at h;split at h
  ·simp only[xg,xh]at h;obtain⟨rfl,rfl⟩:=h;have:b<t.size:=zaw (by omega);have:=zfj (C:=C) (show b-j<=b+1-j by omega);omega
  ·cases h
 |g::fs,mk,b,d0,d,k,hj,h0,h=>by
  rw[za0]at h;split at h
  ·split at h
   ·cases h
   ·rename_i x k' hx;have hb:=hf _ _ _ _ hx;have hs:(d0++x).size<=C*(k'-j):=by
     rw[xe];have h1:=zdo (C:=C) (show j<=b+3 by omega) (show b+3<=k' by omega);have h2:=zfj (C:=C) (show b-j<=b+3-j by omega);omega
    have:=zn4 hC hf j fs 44 k' (d0++x) d k (by omega) hs h;omega
  ·cases h
theorem Bd.mono {C C' T:Nat}{f:Nat->Option (ByteArray×Nat)}(h:Bd C T f)(hC:C<=C'):Bd C' T f:=fun j d k hj=>by
 have:=h j d k hj;have:=xm (k-j) hC;omega
theorem zog (st:Bool)(t:ByteArray):∀ (n:Nat) (ty:Ty),Bd (9*n+9) t.size (enc st t n ty)
 |0,ty=>by intro j d k h;simp[enc]at h
 |n+1,ty=>by
  have ih:=fun ty=>(zog st t n ty);intro j d k h;rw[enc]at h;have up:∀ {d:ByteArray} {k:Nat},j<k/\k<=t.size/\d.size<=9*(k-j)->j<k/\k<=t.size/\d.size<=(9*(n+1)+9)*(k-j):=by
   rintro d k ⟨h1,h2,h3⟩;have:=xm (k-j) (show 9<=9*(n+1)+9 by omega);omega
  split at h
  ·exact up (zod h)
  ·split at h
   ·exact up (zod h)
   ·split at h
    ·exact up (zwf h)
    ·split at h
     ·exact up (zwa h)
     ·split at h
      ·exact(zwb (by omega) (ih ty.in)).mono (by omega) _ _ _ h
      ·split at h
       ·exact(zwc (by omega) (ih ty.in)).mono (by omega) _ _ _ h
       ·split at h
        ·have:=zn4 (C:=9*(n+1)+9) (by omega) (fun ty=>(ih ty).mono (by omega)) j ty.fields 123 j xf d k (xj _) (xo _) h;exact this
        ·cases h
theorem zdf {st:Bool}{t d:ByteArray}{n j k:Nat}{ty:Ty}(h:enc st t n ty j=some (d,k)):j<k/\k<=t.size/\d.size<=(9*n+9)*(k-j):=zog st t n ty j d k h
section
open Go.RowKit
def EncAtOK (n:Nat)(t:ByteArray):Prop:=∀ (ty:Ty) (j:Nat) (w:World) (ai af:Option Addr) (li ci lf cf:Nat),j<=t.size->Rep n w ai li ci af lf cf ty ->
 Calls Tryz.prog 238 #[.agg #[.int .i64 ty.kind,.string ty.letters,.bool ty.op,.slice ai li ci,.slice af lf cf],.string t,.int .i64 j] w fun e w'=>e=.returned (zbk j (enc false t n ty j))/\Below w.heap.size w w'
theorem EncAtOK.no {n:Nat}{t:ByteArray}(IH:EncAtOK n t){ty:Ty}{j:Nat}{w:World}{ai af:Option Addr}{li ci lf cf:Nat}(hj:j<=t.size)(hr:Rep n w ai li ci af lf cf ty)(hx:enc false t n ty j=none) :
 Calls Tryz.prog 238 #[.agg #[.int .i64 ty.kind,.string ty.letters,.bool ty.op,.slice ai li ci,.slice af lf cf],.string t,.int .i64 j] w fun e w'=>e=.returned (.tuple #[.string xf,.int .i64 j,.bool false])/\Below w.heap.size w w':=by
 have:=IH ty j w ai af li ci lf cf hj hr;rw[hx]at this;exact this
theorem EncAtOK.yes {n:Nat}{t:ByteArray}(IH:EncAtOK n t){ty:Ty}{j:Nat}{w:World}{ai af:Option Addr}{li ci lf cf:Nat}(hj:j<=t.size)(hr:Rep n w ai li ci af lf cf ty){d:ByteArray}{k:Nat}(hx:enc false t n ty j=some (d,k)) :
 Calls Tryz.prog 238 #[.agg #[.int .i64 ty.kind,.string ty.letters,.bool ty.op,.slice ai li ci,.slice af lf cf],.string t,.int .i64 j] w fun e w'=>e=.returned (.tuple #[.string d,.int .i64 k,.bool true])/\Below w.heap.size w w':=by
 have:=IH ty j w ai af li ci lf cf hj hr;rw[hx]at this;exact this
theorem zet {n a b:Nat}{d:ByteArray}(h:d.size<=(9*n+9)*(b-a))(hn:n<=100)(hb:b<=4096):d.size<=4000000:=by
 have h1:(9*n+9)*(b-a)<=909*(b-a):=xm _ (by omega);omega
theorem zol {n:Nat}{t:ByteArray}(IH:EncAtOK n t)(ht:t.size<=4096)(hn:n<=100)(ty:Ty)(j:Nat)(w:World)(ai af:Option Addr)(li ci lf cf:Nat)(hj:j<=t.size)(hr:Rep n w ai li ci af lf cf ty) :
  Calls Tryz.prog 290 #[.agg #[.int .i64 ty.kind,.string ty.letters,.bool ty.op,.slice ai li ci,.slice af lf cf],.string t,.int .i64 j] w fun e w'=>e=.returned (zbk j (zbq (enc false t n ty) t j))/\Below w.heap.size w w':=by
 have _hs:t.size<=9000000:=by omega
 have hB:∀ o,Below w.heap.size w (w.alloc o):=fun o=>(Below.refl _ _).alloc (xj _) _;by_cases hm:bAt t j=95
 ·have hm':(bAt t j == 95)=true:=by simp[hm]
  have hr':Hid (zbq (enc false t n ty) t j=some (oneB 0,j+1)):=by show _=_;unfold zbq;rw[if_pos hm]
  clear hm
  go_enter Tryz.func290,Tryz.ntmps290
  go_wp2_with (first|(go_at_call 245;refine(zan _ _ _ (by omega) _hs).mono ?_;rintro e w' ⟨rfl,rfl⟩)|(go_at_call 251;refine(zdp 0 _ (by omega)).mono ?_;rintro e w' ⟨rfl,hbw⟩))
  go_ret3
  rw[hr'.out];exact⟨rfl,(hB _).trans (hbw.mono (by simp))⟩
 ·have hm':(bAt t j == 95)=false:=by simpa using hm
  cases hx:enc false t n ty j with
  |none =>
   have hr':Hid (zbq (enc false t n ty) t j=none):=by show _=_;unfold zbq;rw[if_neg hm,hx]
   have hd:=fun o=>IH.no hj (hr.keep (hB o)) hx;clear hm hx
   go_enter Tryz.func290,Tryz.ntmps290
   go_wp2_with (first|(go_at_call 245;refine(zan _ _ _ (by omega) _hs).mono ?_;rintro e w' ⟨rfl,rfl⟩)|(go_at_call 238;refine(hd _).mono ?_;rintro e w' ⟨rfl,hbw⟩))
   go_ret3
   rw[hr'.out];exact⟨rfl,(hB _).trans (hbw.mono (by simp))⟩
  |some p =>
   obtain⟨d,k⟩:=p;have hr':Hid (zbq (enc false t n ty) t j=some (oneB 1++d,k)):=by show _=_;unfold zbq;rw[if_neg hm,hx]
   have hd:=fun o=>IH.yes hj (hr.keep (hB o)) hx;obtain⟨hb1,hb2,hb3⟩:=zdf hx;have hds:=zet hb3 hn (by omega);have hsz:(oneB 1).size=1:=rfl;clear hm hx hb3
   go_enter Tryz.func290,Tryz.ntmps290
   go_wp2_with (first|(go_at_call 245;refine(zan _ _ _ (by omega) _hs).mono ?_;rintro e w' ⟨rfl,rfl⟩)|(go_at_call 238;refine(hd _).mono ?_;rintro e w' ⟨rfl,hbw⟩)|(go_at_call 251;refine(zdp 1 _ (by omega)).mono ?_;rintro e w' ⟨rfl,hbw2⟩))
   go_ret3
   rw[hr'.out];exact⟨rfl,(hB _).trans ((hbw.mono (by simp)).trans (hbw2.mono (by have:=hbw.size;simp at this;omega)))⟩
theorem zok {n:Nat}{t:ByteArray}(IH:EncAtOK n t)(ht:t.size<=4096)(hn:n<=100)(ty:Ty)(j:Nat)(w:World)(ai af:Option Addr)(li ci lf cf:Nat)(hj:j<=t.size)(hr:Rep n w ai li ci af lf cf ty) :
  Calls Tryz.prog 289 #[.agg #[.int .i64 ty.kind,.string ty.letters,.bool ty.op,.slice ai li ci,.slice af lf cf],.string t,.int .i64 j] w fun e w'=>e=.returned (zbk j (zb1 (enc false t n ty) t j))/\Below w.heap.size w w':=by
 have _hs:t.size<=9000000:=by omega
 have hB:∀ o,Below w.heap.size w (w.alloc o):=fun o=>(Below.refl _ _).alloc (xj _) _;by_cases hm:bAt t j=91
 ·have hm':(bAt t j != 91)=false:=by simp[hm]
  by_cases h2:bAt t (j+1)=93
  ·have h2':(bAt t (j+1) == 93)=true:=by simp[h2]
   have hr':Hid (zb1 (enc false t n ty) t j=some (oneB 0,j+2)):=by show _=_;unfold zb1;rw[if_pos hm,if_pos h2]
   clear hm h2
   go_enter Tryz.func289,Tryz.ntmps289
   go_wp2_with (first|(go_at_call 245;refine(zan _ _ _ (by omega) _hs).mono ?_;rintro e w' ⟨rfl,rfl⟩)|(go_at_call 251;refine(zdp 0 _ (by omega)).mono ?_;rintro e w' ⟨rfl,hbw⟩))
   go_ret3
   rw[hr'.out];exact⟨rfl,(hB _).trans (hbw.mono (by simp))⟩
  ·have h2':(bAt t (j+1) == 93)=false:=by simpa using h2
   obtain⟨R,hR⟩:∃ R,R=zbh (enc false t n ty) t 16 1 j xf:=⟨_,rfl⟩;have hr':zb1 (enc false t n ty) t j=R:=by unfold zb1;rw[if_pos hm,if_neg h2,hR]
   rw[hr'];have HR:Hid (R=zbh (enc false t n ty) t 16 1 j xf):=hR;have hjt:j<t.size:=zaw (by omega);clear hm h2 hr' hR
   go_enter Tryz.func289,Tryz.ntmps289
   go_wp2_with (first|(go_at_call 245;refine(zan _ _ _ (by omega) _hs).mono ?_;rintro e w' ⟨rfl,rfl⟩))
   go_loopw [9,10,11] (fun vd vb vc wr=>∃ (m c b:Nat) (d:ByteArray),c+m=17/\1<=c/\j<=b/\b<t.size/\vc=.int .i64 c/\vb=.int .i64 b/\vd=.string d/\Hid (R=zbh (enc false t n ty) t m c b d)/\Hid (d.size<=(9*n+9)*(b-j))/\Below (w.heap.size+1) (w.alloc (.cells #[.int .i64 ty.kind,.string ty.letters,.bool ty.op,.slice ai li ci,.slice af lf cf] 201)) wr) (fun _ _ c _=>17-(intOf c).toNat)
   case atStart=>exact⟨16,1,j,xf,rfl,xj _,xj _,hjt,rfl,rfl,rfl,HR,xo _,Below.refl _ _⟩
   case round =>
    obtain⟨m,c,b,d,hcm,hc1,hjb,hbt,rfl,rfl,rfl,hR,hd,hb⟩:=hrel;obtain⟨hc,hf⟩:=zap hb;have hrw:Rep n wr ai li ci af lf cf ty:=(hr.keep (hB _)).keep (hb.mono (by simp));have hsw:w.heap.size+1<=wr.heap.size:=by have:=hb.size;simpa using this
    have hbw0:Below w.heap.size w wr:=(hB _).trans (hb.mono (by omega));cases m with
    |zero =>
     have hc17:(17:Int)<=c:=by omega
     have hr':Hid (R=none):=hR
     go_wp2_with fail
     go_ret3
     rw[hr'.out];exact⟨rfl,hbw0⟩
    |succ m =>
     have hc16:(c:Int)<=16:=by omega
     cases hx:enc false t n ty (b+1) with
     |none =>
      have hr':Hid (R=none):=by show _=_;rw[hR.out,zbh,hx]
      have hd:=IH.no (show b+1<=t.size by omega) hrw hx;clear hx
      go_wp2_with (go_at_call 238;refine hd.mono ?_;rintro e w' ⟨rfl,hbw⟩)
      go_ret3
      rw[hr'.out];exact⟨rfl,hbw0.trans (hbw.mono (by omega))⟩
     |some p =>
      obtain⟨x,k⟩:=p;obtain⟨hb1,hb2,hb3⟩:=zdf hx;have hsum:(d++x).size<=(9*n+9)*(k-j):=by
       rw[xe];have h1:=zdo (C:=9*n+9) (show j<=b+1 by omega) (show b+1<=k by omega);have h2:=zfj (C:=9*n+9) (show b-j<=b+1-j by omega);have:=hd.out;omega
      have hs1:=zet hb3 hn (by omega);have hs2:=zet hd.out hn (by omega);have hs3:=zet hsum hn (by omega);have HS:Hid ((d++x).size<=(9*n+9)*(k-j)):=hsum;have hcall:=IH.yes (show b+1<=t.size by omega) hrw hx;have hso:(oneB c).size=1:=rfl;clear hb3 hsum;by_cases h93:bAt t k=93
      ·have hr':Hid (R=some (oneB c++(d++x),k+1)):=by show _=_;rw[hR.out,zbh,hx];simp only[if_pos h93]
       have h93':(bAt t k == 93)=true:=by simp[h93]
       clear hx h93
       go_wp2_with (first|(go_at_call 238;refine hcall.mono ?_;rintro e w' ⟨rfl,hbw⟩)|(go_at_call 245;refine(zan _ _ _ (by omega) _hs).mono ?_;rintro e w' ⟨rfl,rfl⟩)|(go_at_call 251;refine(zdp c _ (by omega)).mono ?_;rintro e w' ⟨rfl,hbw2⟩))
       go_ret3
       rw[hr'.out];exact⟨rfl,hbw0.trans ((hbw.mono (by omega)).trans (hbw2.mono (by have:=hbw.size;omega)))⟩
      ·have h93':(bAt t k == 93)=false:=by simpa using h93
       by_cases h44:bAt t k=44
       ·have h44':(bAt t k != 44)=false:=by simp[h44]
        have hr':Hid (R=zbh (enc false t n ty) t m (c+1) k (d++x)):=by show _=_;rw[hR.out,zbh,hx];simp only[if_neg h93,if_pos h44]
        have hkt:k<t.size:=zaw (by omega);clear hx h93 h44
        go_wp2_with (first|(go_at_call 238;refine hcall.mono ?_;rintro e w' ⟨rfl,hbw⟩)|(go_at_call 245;refine(zan _ _ _ (by omega) _hs).mono ?_;rintro e w' ⟨rfl,rfl⟩))
        go_roundw
        case rel=>exact⟨m,c+1,k,d++x,by omega,by omega,by omega,hkt,by go_num,rfl,rfl,hr',HS,hb.trans (hbw.mono (by omega))⟩
        case measure=>simp[intOf];omega
       ·have h44':(bAt t k != 44)=true:=by simpa using h44
        have hr':Hid (R=none):=by show _=_;rw[hR.out,zbh,hx];simp only[if_neg h93,if_neg h44]
        clear hx h93 h44
        go_wp2_with (first|(go_at_call 238;refine hcall.mono ?_;rintro e w' ⟨rfl,hbw⟩)|(go_at_call 245;refine(zan _ _ _ (by omega) _hs).mono ?_;rintro e w' ⟨rfl,rfl⟩))
        go_ret3
        rw[hr'.out];exact⟨rfl,hbw0.trans (hbw.mono (by omega))⟩
 ·have hm':(bAt t j != 91)=true:=by simpa using hm
  have hr':Hid (zb1 (enc false t n ty) t j=none):=by show _=_;unfold zb1;rw[if_neg hm]
  clear hm
  go_enter Tryz.func289,Tryz.ntmps289
  go_wp2_with (go_at_call 245;refine(zan _ _ _ (by omega) _hs).mono ?_;rintro e w' ⟨rfl,rfl⟩)
  go_ret3
  rw[hr'.out];exact⟨rfl,hB _⟩
end
section
open Go.RowKit
def RepF (n:Nat)(w:World)(af:Option Addr)(fs:List (Nat×Ty×ByteArray)):Prop :=
 (fs=[]/\af=none) \/
    ∃ g,af=some ⟨g,0,none⟩ /\
     ∀ i f,fs[i]?=some f->∃ p1 p2 p3 q1 q2 q3,Rep n w p1 p2 p3 q1 q2 q3 f.2.1/\w.cell? ⟨g,i*7,none⟩=some (.int .i64 f.1) /\
      w.cell? ⟨g,i*7+1,none⟩=some (.int .i64 f.2.1.kind)/\w.cell? ⟨g,i*7+2,none⟩=some (.string f.2.1.letters)/\w.cell? ⟨g,i*7+3,none⟩=some (.bool f.2.1.op)/\w.cell? ⟨g,i*7+4,none⟩=some (.slice p1 p2 p3)/\w.cell? ⟨g,i*7+5,none⟩=some (.slice q1 q2 q3) /\
      w.cell? ⟨g,i*7+6,none⟩=some (.string f.2.2)
theorem Rep.flds {n:Nat}{w:World}{ai af:Option Addr}{li ci lf cf:Nat}{ty:Ty}(h:Rep (n+1) w ai li ci af lf cf ty):lf=ty.fields.length/\ty.fields.length<=9000000/\RepF n w af ty.fields:=by
 obtain⟨_,h1,h2,_,_,h3⟩:=h;refine⟨h2,h1,?_⟩;rcases h3 with h3|h3
 ·exact .inl ⟨h3.1,h3.2.1⟩
 ·exact .inr h3
theorem zom {n:Nat}{t:ByteArray}(IH:EncAtOK n t)(ht:t.size<=4096)(hn:n<=100)(fs:List (Nat×Ty×ByteArray))(j:Nat)(w:World)(af:Option Addr)(lf cf:Nat)(hj:j<=t.size)(hlf:lf=fs.length)(hfl:fs.length<=9000000)(hr:RepF n w af fs) :
  Calls Tryz.prog 291 #[.slice af lf cf,.string t,.int .i64 j] w fun e w'=>e=.returned (zbk j (za0 (enc false t n) t fs 123 j xf))/\Below w.heap.size w w':=by
 have _hs:t.size<=9000000:=by omega
 subst hlf;obtain⟨R,hR⟩:∃ R,R=za0 (enc false t n) t fs 123 j xf:=⟨_,rfl⟩;rw[<- hR];have HR:Hid (R=za0 (enc false t n) t fs 123 j xf):=hR;clear hR
 go_enter Tryz.func291,Tryz.ntmps291
 go_wp2_with fail
 go_loopw [9,10,11,20] (fun vd vb vm vi wr=>∃ (i b:Nat) (mk:Int) (d:ByteArray),i<=fs.length/\j<=b/\b<=t.size/\vi=.int .i64 i/\vb=.int .i64 b/\vm=.int .i64 mk/\vd=.string d/\Hid (0<=mk)/\Hid (R=za0 (enc false t n) t (fs.drop i) mk b d)/\Hid (d.size<=(9*n+9)*(b-j))/\Below w.heap.size w wr) (fun _ _ _ i _=>fs.length-(intOf i).toNat)
 case atStart=>exact⟨0,j,123,xf,xo _,xj _,hj,rfl,rfl,rfl,rfl,(by show (0:Int)<=123;omega),HR,xo _,Below.refl _ _⟩
 case round =>
  obtain⟨i,b,mk,d,hi,hjb,hbt,rfl,rfl,rfl,rfl,hmk,hR,hd,hb⟩:=hrel;by_cases hlt:i<fs.length
  ·obtain⟨f,hf⟩:∃ f,fs[i]?=some f:=⟨fs[i],xp hlt⟩;have hdrop:fs.drop i=f::fs.drop (i+1):=by
    rw[List.drop_eq_getElem_cons hlt];rw[xp hlt]at hf;simp at hf;rw[hf]
   have hr0:=hr;rcases hr with⟨hr,_⟩|⟨g,rfl,hcells⟩
   ·rw[hr]at hf;simp at hf
   ·obtain⟨p1,p2,p3,q1,q2,q3,hrep,k0,k1,k2,k3,k4,k5,k6⟩:=hcells i f hf;have hg:=zag k0;have k0:=zab hb k0;have k1:=zab hb k1;have k2:=zab hb k2;have k3:=zab hb k3;have k4:=zab hb k4;have k5:=zab hb k5;have k6:=zab hb k6;have hg':g<wr.heap.size:=zag k0;have hrepw:=hrep.keep hb;have hBa:∀ o m,Below wr.heap.size wr ((wr.alloc o).drewN m):=fun o m=>below_drewN ((Below.refl _ _).alloc (xj _) _) m;by_cases h1:bAt t b=mk
    ·have h1':(bAt t b != mk)=false:=by simp[h1]
     by_cases h2:bAt t (b+1)=f.1
     ·have h2':(bAt t (b+1) != (f.1:Int))=false:=by simp[h2]
      by_cases h3:bAt t (b+2)=58
      ·have h3':(bAt t (b+2) != 58)=false:=by simp[h3]
       have hb3:b+2<t.size:=zaw (by omega);cases hx:enc false t n f.2.1 (b+3) with
       |none =>
        have hr':Hid (R=none):=by show _=_;rw[hR.out,hdrop,za0,if_pos ⟨h1,h2,h3⟩,hx]
        have hcall:=fun o m=>IH.no (show b+3<=t.size by omega) (hrepw.keep (hBa o m)) hx;clear h1 h2 h3 hx
        go_wp2_with fail
        go_quiet ((go_at_call 245;exact Calls.quiet_of_same (zan _ _ _ (by omega) _hs)))
        go_wp2_with (go_at_call 238;refine(hcall _ _).mono ?_;rintro e w' ⟨rfl,hbw⟩)
        go_ret3
        rw[hr'.out];exact⟨rfl,hb.trans (((hBa _ _).mono hb.size).trans (hbw.mono (by have:=hb.size;simp;omega)))⟩
       |some p =>
        obtain⟨x,k⟩:=p;obtain⟨hb1,hb2,hbs⟩:=zdf hx;have hsum:(d++x).size<=(9*n+9)*(k-j):=by
         rw[xe];have e1:=zdo (C:=9*n+9) (show j<=b+3 by omega) (show b+3<=k by omega);have e2:=zfj (C:=9*n+9) (show b-j<=b+3-j by omega);have:=hd.out;omega
        have hs1:=zet hbs hn (by omega);have hs2:=zet hd.out hn (by omega);have HS:Hid ((d++x).size<=(9*n+9)*(k-j)):=hsum;have hr':Hid (R=za0 (enc false t n) t (fs.drop (i+1)) 44 k (d++x)):=by show _=_;rw[hR.out,hdrop,za0,if_pos ⟨h1,h2,h3⟩,hx]
        have hcall:=fun o m=>IH.yes (show b+3<=t.size by omega) (hrepw.keep (hBa o m)) hx;clear h1 h2 h3 hx hbs hsum
        go_wp2_with fail
        go_quiet ((go_at_call 245;exact Calls.quiet_of_same (zan _ _ _ (by omega) _hs)))
        go_wp2_with (go_at_call 238;refine(hcall _ _).mono ?_;rintro e w' ⟨rfl,hbw⟩)
        go_roundw
        case rel=>exact⟨i+1,k,44,d++x,by omega,by omega,by omega,by go_num,rfl,rfl,rfl,(by show (0:Int)<=44;omega),hr',HS,hb.trans (((hBa _ _).mono hb.size).trans (hbw.mono (by have:=hb.size;simp;omega)))⟩
        case measure=>simp[intOf];omega
      ·have h3':(bAt t (b+2) != 58)=true:=by simpa using h3
       have hr':Hid (R=none):=by show _=_;rw[hR.out,hdrop,za0,if_neg (fun h=>h3 h.2.2)]
       clear h1 h2 h3
       go_wp2_with fail
       go_quiet ((go_at_call 245;exact Calls.quiet_of_same (zan _ _ _ (by omega) _hs)))
       go_wp2_with fail
       go_ret3
       rw[hr'.out];exact⟨rfl,hb.trans ((hBa _ _).mono hb.size)⟩
     ·have h2':(bAt t (b+1) != (f.1:Int))=true:=by simpa using h2
      have hr':Hid (R=none):=by show _=_;rw[hR.out,hdrop,za0,if_neg (fun h=>h2 h.2.1)]
      clear h1 h2
      go_wp2_with fail
      go_quiet ((go_at_call 245;exact Calls.quiet_of_same (zan _ _ _ (by omega) _hs)))
      go_wp2_with fail
      go_ret3
      rw[hr'.out];exact⟨rfl,hb.trans ((hBa _ _).mono hb.size)⟩
    ·have h1':(bAt t b != mk)=true:=by simpa using h1
     have hr':Hid (R=none):=by show _=_;rw[hR.out,hdrop,za0,if_neg (fun h=>h1 h.1)]
     clear h1
     go_wp2_with fail
     go_quiet ((go_at_call 245;exact Calls.quiet_of_same (zan _ _ _ (by omega) _hs)))
     go_wp2_with fail
     go_ret3
     rw[hr'.out];exact⟨rfl,hb.trans ((hBa _ _).mono hb.size)⟩
  ·have hnil:fs.drop i=[]:=List.drop_of_length_le (by omega);by_cases h5:bAt t b=125
   ·have h5':(bAt t b != 125)=false:=by simp[h5]
    have hr':Hid (R=some (d,b+1)):=by show _=_;rw[hR.out,hnil,za0,if_pos h5]
    clear h5
    go_wp2_with (go_at_call 245;refine(zan _ _ _ (by omega) _hs).mono ?_;rintro e w' ⟨rfl,rfl⟩)
    go_ret3
    rw[hr'.out];exact⟨rfl,hb⟩
   ·have h5':(bAt t b != 125)=true:=by simpa using h5
    have hr':Hid (R=none):=by show _=_;rw[hR.out,hnil,za0,if_neg h5]
    clear h5
    go_wp2_with (go_at_call 245;refine(zan _ _ _ (by omega) _hs).mono ?_;rintro e w' ⟨rfl,rfl⟩)
    go_ret3
    rw[hr'.out];exact⟨rfl,hb⟩
end
end Go.Proofs.YtkkekopomiehlabGreatDoor
