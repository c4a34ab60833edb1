import Derived.Test.YtkkekopomiehlabGreatDoorEParse3
set_option linter.unusedVariables false
set_option linter.unusedSimpArgs false
set_option maxHeartbeats 40000000
set_option maxRecDepth 4000
open Option.some renaming injEq->xe
open Prod.mk renaming injEq->xf
open ByteArray renaming size_append->xg,empty->xh
open Nat renaming le_refl->xj,mul_le_mul_right->xm,pow_succ->xp,add_mul->xu,mul_le_mul_left->xv,zero_le->qd,one_mul->qe,mul_assoc->qh,mul_comm->qi
open Int renaming mul_le_mul_of_nonneg_right->xo,natCast_mul->xq,natCast_add->qf
open List renaming any_eq_false->xy,any_eq_true->xz,mem_range->qg,range->qj
open Go.RowKit
namespace Go.Proofs.YtkkekopomiehlabGreatDoor
theorem zzd {s:ByteArray}{a k:Nat}{ty:Ty}(h:zb4 s a=some (ty,k)):a<k/\k<=s.size:=by
 unfold zb4 at h;simp only at h;have hle:=zh7 s a (s.size-a) a;generalize lEnd s a (s.size-a) a=E at h hle;split at h
 ·cases h
 ·split at h
  ·split at h
   ·simp only[xe,xf]at h;have:E+1<s.size:=zaw (by omega);omega
   ·cases h
  ·split at h
   ·simp only[xe,xf]at h;have:E<s.size:=zaw (by omega);omega
   ·cases h
theorem zp0 {pt:Nat->Option (Ty×Nat)}{ef:Ty->Nat->Option (ByteArray×Nat)}{s:ByteArray}(hp:∀ a ty k,pt a=some (ty,k)->a<k/\k<=s.size)(he:∀ ty j d k,ef ty j=some (d,k)->j<k/\k<=s.size)
  {i k:Nat} {f:Nat×Ty×ByteArray} (h:zar pt ef s i=some (f,k)):i<k/\k<=s.size:=by
 unfold zar at h;split at h
 ·split at h
  ·cases h
  ·rename_i ty k' hx;have:=hp _ _ _ hx;split at h
   ·split at h
    ·cases h
    ·rename_i d m hy;have:=he _ _ _ _ hy;simp only[xe,xf]at h;omega
   ·simp only[xe,xf]at h;omega
 ·cases h
theorem zp1 {pf:Nat->Option ((Nat×Ty×ByteArray)×Nat)}{s:ByteArray}(hp:∀ a f k,pf a=some (f,k)->a<k/\k<=s.size):∀ {m a k:Nat} {acc fs:List (Nat×Ty×ByteArray)},za1 pf s m a acc=some (fs,k)->a<k/\k<=s.size
 |0,a,k,acc,fs,h=>by simp[za1]at h
 |m+1,a,k,acc,fs,h=>by
  rw[za1]at h;split at h
  ·cases h
  ·rename_i f k' hx;have:=hp _ _ _ hx;split at h
   ·cases h
   ·split at h
    ·simp only[xe,xf]at h;have:k'<s.size:=zaw (by omega);omega
    ·split at h
     ·have:=zp1 hp h;omega
     ·cases h
theorem zcz (st:Bool)(s:ByteArray):∀ (n i:Nat) (ty:Ty) (k:Nat),zae st s n i=some (ty,k)->i<k/\k<=s.size
 |0,i,ty,k,h=>by simp[zae]at h
 |n+1,i,ty,k,h=>by
  have ih:=zcz st s n;rw[zae]at h;have one:∀ {c:Nat},some (za3 c,i+1)=some (ty,k)->0<=bAt s i->i<k/\k<=s.size:=fun h hb=>by
   simp only[xe,xf]at h;have:=zaw hb;omega
  split at h
  ·exact one h (by omega)
  ·split at h
   ·exact one h (by omega)
   ·split at h
    ·exact one h (by omega)
    ·split at h
     ·have:=zzd h;omega
     ·split at h
      ·unfold zcd at h;split at h
       ·cases h
       ·rename_i t k' hx;have:=ih _ _ _ hx;split at h
        ·simp only[xe,xf]at h;have:k'<s.size:=zaw (by omega);omega
        ·cases h
      ·split at h
       ·unfold zce at h;split at h
        ·cases h
        ·rename_i t k' hx;have:=ih _ _ _ hx;split at h
         ·cases h
         ·simp only[xe,xf]at h;omega
       ·split at h
        ·unfold pRec at h;split at h
         ·cases h
         ·rename_i fs k' hx;have:=zp1 (fun a f k h=>zp0 ih (fun ty j d k h=>⟨(zdf h).1,(zdf h).2.1⟩) h) hx;simp only[xe,xf]at h;omega
        ·cases h
theorem zhe {f:FuncId}{args:Array Value}{w:World}{B n:Nat}{r:Option (Ty×Nat)}(h:Calls Tryz.prog f args w fun e w'=>PRet B n r e w'/\Below w.heap.size w w')(hr:r=none) :
  Calls Tryz.prog f args w fun e w'=>∃ k':Nat,e=.returned (.tuple #[.agg #[.int .i64 0,.string xh,.bool false,.slice none 0 0,.slice none 0 0],.int .i64 k',.bool false])/\Below w.heap.size w w':=by
 refine h.mono ?_;rintro e w' ⟨h1,h2⟩;rw[hr]at h1;obtain⟨k',h1⟩:=h1;exact⟨k',h1,h2⟩
theorem zhf {f:FuncId}{args:Array Value}{w:World}{B n:Nat}{r:Option (Ty×Nat)}{ty:Ty}{k:Nat}(h:Calls Tryz.prog f args w fun e w'=>PRet B n r e w'/\Below w.heap.size w w')(hr:r=some (ty,k)) :
  Calls Tryz.prog f args w fun e w'=>∃ ai li ci af lf cf,e=.returned (.tuple #[.agg #[.int .i64 ty.kind,.string ty.letters,.bool ty.op,.slice ai li ci,.slice af lf cf],.int .i64 k,.bool true])/\RepB (fun b=>B<=b) n w' ai li ci af lf cf ty/\Below w.heap.size w w':=by
 refine h.mono ?_;rintro e w' ⟨h1,h2⟩;rw[hr]at h1;obtain⟨ai,li,ci,af,lf,cf,h1,h3⟩:=h1;exact⟨ai,li,ci,af,lf,cf,h1,h3,h2⟩
theorem zz6 {s:ByteArray}(hs:s.size<=4096):ParseTypeOK 0 s:=by
 intro i w hi hn;have _hs:s.size<=9000000:=by omega
 have hB:∀ o,Below w.heap.size w (w.alloc o):=fun o=>(Below.refl _ _).alloc (xj _) _;have hb:Hid (bAt s i=-1):=zd0 s i (by omega);have h105':(bAt s i == 105)=false:=by rw[hb.out];rfl
 have h108':(bAt s i == 108)=false:=by rw[hb.out];rfl
 have h115':(bAt s i == 115)=false:=by rw[hb.out];rfl
 have h60':(bAt s i == 60)=false:=by rw[hb.out];rfl
 have h91':(bAt s i == 91)=false:=by rw[hb.out];rfl
 have h63':(bAt s i == 63)=false:=by rw[hb.out];rfl
 have h123':(bAt s i == 123)=false:=by rw[hb.out];rfl
 go_enter Tryz.func226,Tryz.ntmps226
 go_wp2_with (go_at_call 245;refine(zan _ _ _ (by omega) _hs).mono ?_;rintro e w' ⟨rfl,rfl⟩)
 exact bodyPost_ret (v:=.tuple #[.agg #[.int .i64 0,.string xh,.bool false,.slice none 0 0,.slice none 0 0],.int .i64 i,.bool false]) (by simp[results,Tryz.results226,go_sem];rfl) rfl ⟨⟨i,rfl⟩,hB _⟩
theorem zz5 {n:Nat}{s:ByteArray}(IH:ParseTypeOK n s)(hs:s.size<=4096)(hn100:n<=100):ParseTypeOK (n+1) s:=by
 intro i w hi hn;have _hs:s.size<=9000000:=by omega
 have hB:∀ o,Below w.heap.size w (w.alloc o):=fun o=>(Below.refl _ _).alloc (xj _) _;have hbd:=fun a ty k (h:zae false s n a=some (ty,k))=>(zcz false s n a ty k h).2;have hfbd:=fun i f k (h:zar (zae false s n) (enc false s n) s i=some (f,k))=>zp0 (zcz false s n) (fun ty j d k h=>⟨(zdf h).1,(zdf h).2.1⟩) h;have IF:FieldOK n s:=fun i w h1 h2=>zzy IH (zkc hs n (by omega)) hs i w h1 h2 hbd;by_cases h105:bAt s i=105
 ·have h105':(bAt s i == 105)=true:=by simp[h105]
  have hil:i<s.size:=zaw (by omega);have hr':Hid (zae false s (n+1) i=some (za3 105,i+1)):=by show _=_;rw[zae,if_pos h105]
  have HK:Hid (bAt s i=105):=h105;clear h105 hbd hfbd
  go_enter Tryz.func226,Tryz.ntmps226
  go_wp2_with ((go_at_call 245;refine(zan _ _ _ (by omega) _hs).mono ?_;rintro e w' ⟨rfl,rfl⟩))
  refine bodyPost_ret (v:=.tuple #[.agg #[.int .i64 (bAt s i),.string xh,.bool false,.slice none 0 0,.slice none 0 0],.int .i64 (i+1:Nat),.bool true]) (by simp[results,Tryz.results226,go_sem];rfl) rfl ?_;rw[hr'.out,HK.out];exact⟨⟨_,_,_,_,_,_,rfl,RepB.plain (qd _) (by simp[za3]) rfl rfl⟩,hB _⟩
 have h105':(bAt s i == 105)=false:=by simpa using h105
 by_cases h108:bAt s i=108
 ·have h108':(bAt s i == 108)=true:=by simp[h108]
  have hil:i<s.size:=zaw (by omega);have hr':Hid (zae false s (n+1) i=some (za3 108,i+1)):=by show _=_;rw[zae,if_neg h105,if_pos h108]
  have HK:Hid (bAt s i=108):=h108;clear h105 h108 hbd hfbd
  go_enter Tryz.func226,Tryz.ntmps226
  go_wp2_with ((go_at_call 245;refine(zan _ _ _ (by omega) _hs).mono ?_;rintro e w' ⟨rfl,rfl⟩))
  refine bodyPost_ret (v:=.tuple #[.agg #[.int .i64 (bAt s i),.string xh,.bool false,.slice none 0 0,.slice none 0 0],.int .i64 (i+1:Nat),.bool true]) (by simp[results,Tryz.results226,go_sem];rfl) rfl ?_;rw[hr'.out,HK.out];exact⟨⟨_,_,_,_,_,_,rfl,RepB.plain (qd _) (by simp[za3]) rfl rfl⟩,hB _⟩
 have h108':(bAt s i == 108)=false:=by simpa using h108
 by_cases h115:bAt s i=115
 ·have h115':(bAt s i == 115)=true:=by simp[h115]
  have hil:i<s.size:=zaw (by omega);have hr':Hid (zae false s (n+1) i=some (za3 115,i+1)):=by show _=_;rw[zae,if_neg h105,if_neg h108,if_pos h115]
  have HK:Hid (bAt s i=115):=h115;clear h105 h108 h115 hbd hfbd
  go_enter Tryz.func226,Tryz.ntmps226
  go_wp2_with ((go_at_call 245;refine(zan _ _ _ (by omega) _hs).mono ?_;rintro e w' ⟨rfl,rfl⟩))
  refine bodyPost_ret (v:=.tuple #[.agg #[.int .i64 (bAt s i),.string xh,.bool false,.slice none 0 0,.slice none 0 0],.int .i64 (i+1:Nat),.bool true]) (by simp[results,Tryz.results226,go_sem];rfl) rfl ?_;rw[hr'.out,HK.out];exact⟨⟨_,_,_,_,_,_,rfl,RepB.plain (qd _) (by simp[za3]) rfl rfl⟩,hB _⟩
 have h115':(bAt s i == 115)=false:=by simpa using h115
 by_cases h60:bAt s i=60
 ·have h60':(bAt s i == 60)=true:=by simp[h60]
  have hil:i<s.size:=zaw (by omega);have hr':Hid (zae false s (n+1) i=zb4 s (i+1)):=by show _=_;rw[zae,if_neg h105,if_neg h108,if_neg h115,if_pos h60]
  have hc:=fun w1=>zzx n hs (i+1) w1 (by omega);clear h105 h108 h115 h60 hbd hfbd;cases hx:zb4 s (i+1) with
  |none =>
   have hcall:=fun w1=>zhe (hc w1) hx;clear hc
   go_enter Tryz.func226,Tryz.ntmps226
   go_wp2_with (first|(go_at_call 245;refine(zan _ _ _ (by omega) _hs).mono ?_;rintro e w' ⟨rfl,rfl⟩)|(go_at_call 277;refine(hcall _).mono ?_;rintro e w1 ⟨k',rfl,hb1⟩;obtain⟨hc1,hf1⟩:=zap hb1;have hz1:w.heap.size<w1.heap.size:=(by have:=hb1.size;simp at this;omega)))
   refine bodyPost_ret (v:=.tuple #[.agg #[.int .i64 0,.string xh,.bool false,.slice none 0 0,.slice none 0 0],.int .i64 k',.bool false]) (by simp[results,Tryz.results226,go_sem,hc1,hz1]) rfl ?_;rw[hr'.out,hx];exact⟨⟨k',rfl⟩,Below.set5 ((hB _).trans (hb1.mono (by simp))) (xj _)⟩
  |some p =>
   obtain⟨ty,k⟩:=p;have hcall:=fun w1=>zhf (hc w1) hx;clear hc
   go_enter Tryz.func226,Tryz.ntmps226
   go_wp2_with (first|(go_at_call 245;refine(zan _ _ _ (by omega) _hs).mono ?_;rintro e w' ⟨rfl,rfl⟩)|(go_at_call 277;refine(hcall _).mono ?_;rintro e w1 ⟨ai,li,ci,af,lf,cf,rfl,hr1,hb1⟩;obtain⟨hc1,hf1⟩:=zap hb1;have hz1:w.heap.size<w1.heap.size:=(by have:=hb1.size;simp at this;omega)))
   refine bodyPost_ret (v:=.tuple #[.agg #[.int .i64 ty.kind,.string ty.letters,.bool ty.op,.slice ai li ci,.slice af lf cf],.int .i64 k,.bool true]) (by simp[results,Tryz.results226,go_sem,hc1,hz1]) rfl ?_;rw[hr'.out,hx];exact⟨⟨ai,li,ci,af,lf,cf,rfl,(hr1.keep (fun b o v hS h=>zco h (by simp at hS;omega))).imp (fun b _ h=>by simp at h;omega)⟩,Below.set5 ((hB _).trans (hb1.mono (by simp))) (xj _)⟩
 have h60':(bAt s i == 60)=false:=by simpa using h60
 by_cases h91:bAt s i=91
 ·have h91':(bAt s i == 91)=true:=by simp[h91]
  have hil:i<s.size:=zaw (by omega);have hr':Hid (zae false s (n+1) i=zcd (zae false s n) s (i+1)):=by show _=_;rw[zae,if_neg h105,if_neg h108,if_neg h115,if_neg h60,if_pos h91]
  have hc:=fun w1=>zz0 IH hs (i+1) w1 (by omega) (by omega) (hbd (i+1));clear h105 h108 h115 h60 h91 hbd hfbd;cases hx:zcd (zae false s n) s (i+1) with
  |none =>
   have hcall:=fun w1=>zhe (hc w1) hx;clear hc
   go_enter Tryz.func226,Tryz.ntmps226
   go_wp2_with (first|(go_at_call 245;refine(zan _ _ _ (by omega) _hs).mono ?_;rintro e w' ⟨rfl,rfl⟩)|(go_at_call 278;refine(hcall _).mono ?_;rintro e w1 ⟨k',rfl,hb1⟩;obtain⟨hc1,hf1⟩:=zap hb1;have hz1:w.heap.size<w1.heap.size:=(by have:=hb1.size;simp at this;omega)))
   refine bodyPost_ret (v:=.tuple #[.agg #[.int .i64 0,.string xh,.bool false,.slice none 0 0,.slice none 0 0],.int .i64 k',.bool false]) (by simp[results,Tryz.results226,go_sem,hc1,hz1]) rfl ?_;rw[hr'.out,hx];exact⟨⟨k',rfl⟩,Below.set5 ((hB _).trans (hb1.mono (by simp))) (xj _)⟩
  |some p =>
   obtain⟨ty,k⟩:=p;have hcall:=fun w1=>zhf (hc w1) hx;clear hc
   go_enter Tryz.func226,Tryz.ntmps226
   go_wp2_with (first|(go_at_call 245;refine(zan _ _ _ (by omega) _hs).mono ?_;rintro e w' ⟨rfl,rfl⟩)|(go_at_call 278;refine(hcall _).mono ?_;rintro e w1 ⟨ai,li,ci,af,lf,cf,rfl,hr1,hb1⟩;obtain⟨hc1,hf1⟩:=zap hb1;have hz1:w.heap.size<w1.heap.size:=(by have:=hb1.size;simp at this;omega)))
   refine bodyPost_ret (v:=.tuple #[.agg #[.int .i64 ty.kind,.string ty.letters,.bool ty.op,.slice ai li ci,.slice af lf cf],.int .i64 k,.bool true]) (by simp[results,Tryz.results226,go_sem,hc1,hz1]) rfl ?_;rw[hr'.out,hx];exact⟨⟨ai,li,ci,af,lf,cf,rfl,(hr1.keep (fun b o v hS h=>zco h (by simp at hS;omega))).imp (fun b _ h=>by simp at h;omega)⟩,Below.set5 ((hB _).trans (hb1.mono (by simp))) (xj _)⟩
 have h91':(bAt s i == 91)=false:=by simpa using h91
 by_cases h63:bAt s i=63
 ·have h63':(bAt s i == 63)=true:=by simp[h63]
  have hil:i<s.size:=zaw (by omega);have hr':Hid (zae false s (n+1) i=zce (zae false s n) (i+1)):=by show _=_;rw[zae,if_neg h105,if_neg h108,if_neg h115,if_neg h60,if_neg h91,if_pos h63]
  have hc:=fun w1=>zz1 IH hs (i+1) w1 (by omega) (by omega) (hbd (i+1));clear h105 h108 h115 h60 h91 h63 hbd hfbd;cases hx:zce (zae false s n) (i+1) with
  |none =>
   have hcall:=fun w1=>zhe (hc w1) hx;clear hc
   go_enter Tryz.func226,Tryz.ntmps226
   go_wp2_with (first|(go_at_call 245;refine(zan _ _ _ (by omega) _hs).mono ?_;rintro e w' ⟨rfl,rfl⟩)|(go_at_call 279;refine(hcall _).mono ?_;rintro e w1 ⟨k',rfl,hb1⟩;obtain⟨hc1,hf1⟩:=zap hb1;have hz1:w.heap.size<w1.heap.size:=(by have:=hb1.size;simp at this;omega)))
   refine bodyPost_ret (v:=.tuple #[.agg #[.int .i64 0,.string xh,.bool false,.slice none 0 0,.slice none 0 0],.int .i64 k',.bool false]) (by simp[results,Tryz.results226,go_sem,hc1,hz1]) rfl ?_;rw[hr'.out,hx];exact⟨⟨k',rfl⟩,Below.set5 ((hB _).trans (hb1.mono (by simp))) (xj _)⟩
  |some p =>
   obtain⟨ty,k⟩:=p;have hcall:=fun w1=>zhf (hc w1) hx;clear hc
   go_enter Tryz.func226,Tryz.ntmps226
   go_wp2_with (first|(go_at_call 245;refine(zan _ _ _ (by omega) _hs).mono ?_;rintro e w' ⟨rfl,rfl⟩)|(go_at_call 279;refine(hcall _).mono ?_;rintro e w1 ⟨ai,li,ci,af,lf,cf,rfl,hr1,hb1⟩;obtain⟨hc1,hf1⟩:=zap hb1;have hz1:w.heap.size<w1.heap.size:=(by have:=hb1.size;simp at this;omega)))
   refine bodyPost_ret (v:=.tuple #[.agg #[.int .i64 ty.kind,.string ty.letters,.bool ty.op,.slice ai li ci,.slice af lf cf],.int .i64 k,.bool true]) (by simp[results,Tryz.results226,go_sem,hc1,hz1]) rfl ?_;rw[hr'.out,hx];exact⟨⟨ai,li,ci,af,lf,cf,rfl,(hr1.keep (fun b o v hS h=>zco h (by simp at hS;omega))).imp (fun b _ h=>by simp at h;omega)⟩,Below.set5 ((hB _).trans (hb1.mono (by simp))) (xj _)⟩
 have h63':(bAt s i == 63)=false:=by simpa using h63
 by_cases h123:bAt s i=123
 ·have h123':(bAt s i == 123)=true:=by simp[h123]
  have hil:i<s.size:=zaw (by omega);have hr':Hid (zae false s (n+1) i=pRec (zar (zae false s n) (enc false s n) s) s (i+1)):=by show _=_;rw[zae,if_neg h105,if_neg h108,if_neg h115,if_neg h60,if_neg h91,if_neg h63,if_pos h123]
  have hc:=fun w1=>zz4 IF hs (i+1) w1 (by omega) (by omega) hfbd;clear h105 h108 h115 h60 h91 h63 h123 hbd hfbd;cases hx:pRec (zar (zae false s n) (enc false s n) s) s (i+1) with
  |none =>
   have hcall:=fun w1=>zhe (hc w1) hx;clear hc
   go_enter Tryz.func226,Tryz.ntmps226
   go_wp2_with (first|(go_at_call 245;refine(zan _ _ _ (by omega) _hs).mono ?_;rintro e w' ⟨rfl,rfl⟩)|(go_at_call 280;refine(hcall _).mono ?_;rintro e w1 ⟨k',rfl,hb1⟩;obtain⟨hc1,hf1⟩:=zap hb1;have hz1:w.heap.size<w1.heap.size:=(by have:=hb1.size;simp at this;omega)))
   refine bodyPost_ret (v:=.tuple #[.agg #[.int .i64 0,.string xh,.bool false,.slice none 0 0,.slice none 0 0],.int .i64 k',.bool false]) (by simp[results,Tryz.results226,go_sem,hc1,hz1]) rfl ?_;rw[hr'.out,hx];exact⟨⟨k',rfl⟩,Below.set5 ((hB _).trans (hb1.mono (by simp))) (xj _)⟩
  |some p =>
   obtain⟨ty,k⟩:=p;have hcall:=fun w1=>zhf (hc w1) hx;clear hc
   go_enter Tryz.func226,Tryz.ntmps226
   go_wp2_with (first|(go_at_call 245;refine(zan _ _ _ (by omega) _hs).mono ?_;rintro e w' ⟨rfl,rfl⟩)|(go_at_call 280;refine(hcall _).mono ?_;rintro e w1 ⟨ai,li,ci,af,lf,cf,rfl,hr1,hb1⟩;obtain⟨hc1,hf1⟩:=zap hb1;have hz1:w.heap.size<w1.heap.size:=(by have:=hb1.size;simp at this;omega)))
   refine bodyPost_ret (v:=.tuple #[.agg #[.int .i64 ty.kind,.string ty.letters,.bool ty.op,.slice ai li ci,.slice af lf cf],.int .i64 k,.bool true]) (by simp[results,Tryz.results226,go_sem,hc1,hz1]) rfl ?_;rw[hr'.out,hx];exact⟨⟨ai,li,ci,af,lf,cf,rfl,(hr1.keep (fun b o v hS h=>zco h (by simp at hS;omega))).imp (fun b _ h=>by simp at h;omega)⟩,Below.set5 ((hB _).trans (hb1.mono (by simp))) (xj _)⟩
 have h123':(bAt s i == 123)=false:=by simpa using h123
 have hr':Hid (zae false s (n+1) i=none):=by show _=_;rw[zae,if_neg h105,if_neg h108,if_neg h115,if_neg h60,if_neg h91,if_neg h63,if_neg h123]
 clear h105 h108 h115 h60 h91 h63 h123 hbd hfbd
 go_enter Tryz.func226,Tryz.ntmps226
 go_wp2_with ((go_at_call 245;refine(zan _ _ _ (by omega) _hs).mono ?_;rintro e w' ⟨rfl,rfl⟩))
 refine bodyPost_ret (v:=.tuple #[.agg #[.int .i64 0,.string xh,.bool false,.slice none 0 0,.slice none 0 0],.int .i64 i,.bool false]) (by simp[results,Tryz.results226,go_sem];rfl) rfl ?_;rw[hr'.out];exact⟨⟨i,rfl⟩,hB _⟩
theorem zqk {s:ByteArray}(hs:s.size<=4096):∀ n,n<=101->ParseTypeOK n s
 |0,_=>zz6 hs
 |n+1,hn=>zz5 (zqk hs n (by omega)) hs (by omega)
def tw (l:ByteArray):Bool:=(qj l.size).any fun i=>(qj i).any fun j=>bAt l i == bAt l j
theorem zsj {l:ByteArray}{i j:Nat}(h1:j<i)(h2:i<l.size)(h:bAt l i=bAt l j):tw l=true:=by
 unfold tw;rw[xz];exact⟨i,by simpa using h2,by rw[xz];exact⟨j,by simpa using h1,by simpa using h⟩⟩
theorem yad9 {l:ByteArray}(h:∀ i j,j<i->i<l.size->bAt l i≠bAt l j):tw l=false:=by
 unfold tw;rw[xy];intro i hi;simp only[qg]at hi;rw[Bool.not_eq_true,xy];intro j hj;simp only[qg]at hj;simpa using h i j hj hi
section
def decS:Nat->Nat->ByteArray
 |0,n=>oneB (48+n)
 |m+1,n=>if n<10 then oneB (48+n) else decS m (n / 10)++oneB (48+n % 10)
theorem zeu:∀ m n,(decS m n).size<=m+1
 |0,n=>by rw[decS,zak];omega
 |m+1,n=>by
  rw[decS];split
  ·rw[zak];omega
  ·have:=zeu m (n / 10);rw[xg,zak];omega
theorem zj0 (W:World)(b n:Nat)(hn:n<256)(h:W.cell? ⟨b,0,none⟩=some (.int .u8 n)) :
  (convert 217 9 (.slice (some ⟨b,0,none⟩) 1 1)).run Tryz.prog W=.ok (.string (oneB n)) W:=by
 have hc:=run_convert_bytes_arg (P:=Tryz.prog) W 217 5 (Tryz.underlying217) (Tryz.underlying5) b 0 1 1 [(n:Int)] rfl (fun i hi=>by cases i with|zero=>simpa using h|succ=>omega) 9 (Tryz.underlying9);rw[hc];simp[oneB,strOfNums]
def decI (n:Int):ByteArray:=if n<0 then ⟨#[45]⟩++decS 18 (-n).toNat else decS 18 n.toNat
end
def uAtL (s:ByteArray)(a:Nat):Nat->Nat->Nat->Nat->Option (Nat×Nat)
 |0,_,_,_=>none
 |m+1,k,u,x =>
  if bAt s (a+k)<0\/(bAt s (a+k)=0/\0<k) then none
  else if bAt s (a+k)<128 then some (u+(bAt s (a+k)).toNat * x,a+k+1)
  else uAtL s a m (k+1) (u+((bAt s (a+k)).toNat-128)*x) (x*128)
def uAt (s:ByteArray)(a:Nat):Option (Nat×Nat):=uAtL s a 8 0 0 1
theorem zsn (s:ByteArray)(a:Nat):∀ (m k u x v e:Nat),u<x->x*128 ^ m<=72057594037927936->uAtL s a m k u x=some (v,e)->v<72057594037927936/\a+k<e/\e<=s.size
 |0,k,u,x,v,e,_,_,h=>by simp[uAtL]at h
 |m+1,k,u,x,v,e,hu,hx,h=>by
  rw[uAtL]at h;have hhi:=zeq s (a+k);have hp:x*128<=x*128 ^ (m+1):=xv x (by rw[xp];have:=Nat.pow_pos (n:=m) (show 0<128 by omega);omega);split at h
  ·cases h
  ·rename_i hc;split at h
   ·rename_i hd;simp only[xe,xf]at h;have hl:a+k<s.size:=zaw (by omega);have hm:(bAt s (a+k)).toNat * x<=127*x:=xm x (by omega);omega
   ·have hm:((bAt s (a+k)).toNat-128)*x<=127*x:=xm x (by omega);have:=zsn s a m (k+1) _ _ v e (by omega) (by rw[xp]at hx;rw[qh];rw[qi 128];exact hx) h;omega
def zdb (u:Nat):Int:=if u % 2=1 then -((u / 2:Nat):Int)-1 else ((u / 2:Nat):Int)
def zbe (lo hi:Int)(s:ByteArray)(a:Nat):Option (ByteArray×Nat) :=
 match uAt s a with
 |none=>none
 |some (u,e)=>if zdb u<lo\/hi<zdb u then none else some (decI (zdb u),e)
theorem zso {s:ByteArray}{a u e:Nat}(h:uAt s a=some (u,e)):u<72057594037927936/\a<e/\e<=s.size:=by
 have:=zsn s a 8 0 0 1 u e (by omega) (by omega) h;omega
def allS (s:ByteArray):Nat->Nat->Bool
 |0,_=>true
 |m+1,k=>inS (bAt s k)&&allS s m (k+1)
def quo:ByteArray:=⟨#[34]⟩
def zca (s:ByteArray)(a:Nat):Option (ByteArray×Nat) :=
 if bAt s a<0\/60<bAt s a then none
 else if allS s (bAt s a).toNat (a+1)=true then some (quo++s.extract (a+1) (a+1+(bAt s a).toNat)++quo,a+1+(bAt s a).toNat) else none
def zcv (l s:ByteArray)(a:Nat):Option (ByteArray×Nat) :=
 if bAt s a<0\/bAt l (bAt s a).toNat<0 then none else some (oneB (bAt l (bAt s a).toNat).toNat,a+1)
def zb0 (f:Nat->Option (ByteArray×Nat)):Nat->Nat->Nat->ByteArray->Option (ByteArray×Nat)
 |0,_,fr,t=>some (t++⟨#[93]⟩,fr)
 |m+1,k,fr,t =>
  match f fr with
  |none=>none
  |some (x,nx)=>zb0 f m (k+1) nx ((if 0<k then t++⟨#[44]⟩ else t)++x)
def zdl (f:Nat->Option (ByteArray×Nat))(s:ByteArray)(a:Nat):Option (ByteArray×Nat) :=
 if bAt s a<0\/16<bAt s a then none else zb0 f (bAt s a).toNat 0 (a+1) ⟨#[91]⟩
def zb9 (f:Nat->Option (ByteArray×Nat))(s:ByteArray)(a:Nat):Option (ByteArray×Nat) :=
 if bAt s a=0 then some (⟨#[95]⟩,a+1) else if bAt s a=1 then f (a+1) else none
def zbp (f:Ty->Nat->Option (ByteArray×Nat)):List (Nat×Ty×ByteArray)->ByteArray->Nat->ByteArray->Option (ByteArray×Nat)
 |[],_,fr,t=>some (t++⟨#[125]⟩,fr)
 |g::fs,mk,fr,t =>
  match f g.2.1 fr with
  |none=>none
  |some (x,nx)=>zbp f fs ⟨#[44]⟩ nx (t++(((mk++oneB g.1)++⟨#[58]⟩)++x))
def dec (s:ByteArray):Nat->Ty->Nat->Option (ByteArray×Nat)
 |0,_,_=>none
 |n+1,ty,a =>
  if ty.kind=105 then zbe (-2147483648) 2147483647 s a
  else if ty.kind=108 then zbe (-1000000000000000) 1000000000000000 s a
  else if ty.kind=115 then zca s a
  else if ty.kind=60 then zcv ty.letters s a
  else if ty.kind=91 then zdl (dec s n ty.in) s a
  else if ty.kind=63 then zb9 (dec s n ty.in) s a
  else if ty.kind=123/\ty.fields≠[] then zbp (dec s n) ty.fields ⟨#[123]⟩ a xh
  else none
theorem zj2 (n:Int):(decI n).size<=20:=by
 unfold decI;split
 ·rw[xg];have:=zeu 18 (-n).toNat;have e:(⟨#[45]⟩:ByteArray).size=1:=rfl;omega
 ·have:=zeu 18 n.toNat;omega
theorem znq {lo hi:Int}{s d:ByteArray}{a k:Nat}(h:zbe lo hi s a=some (d,k)):a<k/\k<=s.size/\d.size<=20*(k-a):=by
 unfold zbe at h;split at h
 ·cases h
 ·rename_i u e hu;have:=zso hu;split at h
  ·cases h
  ·simp only[xe,xf]at h;obtain⟨rfl,rfl⟩:=h;have:=zj2 (zdb u);omega
theorem zmq (s:ByteArray):∀ m k,allS s m k=true->m=0\/k+m<=s.size
 |0,k,_=>.inl rfl
 |m+1,k,h=>by
  right;rw[allS,Bool.and_eq_true]at h;have h1:=zkl h.1;rcases zmq s m (k+1) h.2 with h2|h2<;>omega
theorem zcf:quo.size=1:=rfl
theorem zv2 {s d:ByteArray}{a k:Nat}(h:zca s a=some (d,k)):a<k/\k<=s.size/\d.size<=20*(k-a):=by
 unfold zca at h;split at h
 ·cases h
 ·rename_i hc;split at h
  ·rename_i hl;simp only[xe,xf]at h;obtain⟨rfl,rfl⟩:=h;have ha:a<s.size:=zaw (by omega);have:=zmq s _ _ hl;have hb:a+1+(bAt s a).toNat<=s.size:=by omega
   rw[xg,xg,zcf,size_extract s (a+1) _ (by omega) hb];omega
  ·cases h
theorem zvx {l s d:ByteArray}{a k:Nat}(h:zcv l s a=some (d,k)):a<k/\k<=s.size/\d.size<=20*(k-a):=by
 unfold zcv at h;split at h
 ·cases h
 ·simp only[xe,xf]at h;obtain⟨rfl,rfl⟩:=h;have ha:a<s.size:=zaw (by omega);rw[zak];omega
theorem zbv (c:UInt8):(⟨#[c]⟩:ByteArray).size=1:=rfl
theorem zno {C T:Nat}{f:Nat->Option (ByteArray×Nat)}(hf:Bd C T f):∀ (m k fr:Nat) (t x:ByteArray) (e:Nat),fr<=T->zb0 f m k fr t=some (x,e)->fr<=e/\e<=T/\x.size<=t.size+1+(C+1)*(e-fr)
 |0,k,fr,t,x,e,hT,h=>by
  simp only[zb0,xe,xf]at h;obtain⟨rfl,rfl⟩:=h;rw[xg,zbv];omega
 |m+1,k,fr,t,x,e,hT,h=>by
  rw[zb0]at h;split at h
  ·cases h
  ·rename_i y nx hy;have hb:=hf _ _ _ hy;have ih:=zno hf m (k+1) nx _ x e hb.2.1 h;have hs:((if 0<k then t++⟨#[44]⟩ else t)++y).size<=t.size+1+y.size:=by
    rw[xg];split
    ·rw[xg,zbv];omega
    ·omega
   have e1:=zdo (C:=C+1) (show fr<=nx by omega) (show nx<=e by omega);have e2:(C+1)*(nx-fr)=C*(nx-fr)+(nx-fr):=by rw[xu,qe]
   omega
theorem zvz {C:Nat}{s:ByteArray}{f:Nat->Option (ByteArray×Nat)}(hf:Bd C s.size f):Bd (C+2) s.size (zdl f s):=by
 intro a d k h;unfold zdl at h;split at h
 ·cases h
 ·have ha:a<s.size:=zaw (by omega);have:=zno hf _ 0 (a+1) _ d k (by omega) h;rw[zbv]at this;have e1:=zdo (C:=C+1) (show a<=a+1 by omega) (show a+1<=k by omega);have e2:(C+2)*(k-a)=(C+1)*(k-a)+(k-a):=by rw[show C+2=(C+1)+1 by omega,xu,qe]
  have e3:(C+1)*(a+1-a)=C+1:=by rw[show a+1-a=1 by omega,Nat.mul_one]
  omega
theorem zv0 {C:Nat}{s:ByteArray}{f:Nat->Option (ByteArray×Nat)}(hC:1<=C)(hf:Bd C s.size f):Bd C s.size (zb9 f s):=by
 intro a d k h;unfold zb9 at h;split at h
 ·simp only[xe,xf]at h;obtain⟨rfl,rfl⟩:=h;have ha:a<s.size:=zaw (by omega);rw[zbv,show a+1-a=1 by omega];omega
 ·split at h
  ·have:=hf _ _ _ h;have e:=zfj (C:=C) (show k-(a+1)<=k-a by omega);omega
  ·cases h
theorem znl {C T:Nat}{f:Ty->Nat->Option (ByteArray×Nat)}(hf:∀ ty,Bd C T (f ty)):∀ (fs:List (Nat×Ty×ByteArray)) (mk:ByteArray) (fr:Nat) (t x:ByteArray) (e:Nat),mk.size=1->fr<=T->zbp f fs mk fr t=some (x,e)->fr+(if fs=[] then 0 else 1)<=e/\e<=T/\x.size<=t.size+1+(C+3)*(e-fr)
 |[],mk,fr,t,x,e,hm,hT,h=>by
  simp only[zbp,xe,xf]at h;obtain⟨rfl,rfl⟩:=h;rw[xg,zbv];simp;omega
 |g::fs,mk,fr,t,x,e,hm,hT,h=>by
  rw[zbp]at h;split at h
  ·cases h
  ·rename_i y nx hy;have hb:=hf _ _ _ _ hy;have ih:=znl hf fs _ nx _ x e (zbv 44) hb.2.1 h;simp only[xg,zbv,zak,hm]at ih;have e1:=zdo (C:=C+3) (show fr<=nx by omega) (show nx<=e by split at ih<;>omega);have e2:(C+3)*(nx-fr)=C*(nx-fr)+3*(nx-fr):=by rw[xu]
   simp;split at ih<;>omega
theorem znt (s:ByteArray):∀ (n:Nat) (ty:Ty),Bd (4*n+20) s.size (dec s n ty)
 |0,ty=>by intro a d k h;simp[dec]at h
 |n+1,ty=>by
  have ih:=znt s n;intro a d k h;rw[dec]at h;have up:∀ {d:ByteArray} {k:Nat},a<k/\k<=s.size/\d.size<=20*(k-a)->a<k/\k<=s.size/\d.size<=(4*(n+1)+20)*(k-a):=by
   rintro d k ⟨h1,h2,h3⟩;have:=xm (k-a) (show 20<=4*(n+1)+20 by omega);omega
  split at h
  ·exact up (znq h)
  ·split at h
   ·exact up (znq h)
   ·split at h
    ·exact up (zv2 h)
    ·split at h
     ·exact up (zvx h)
     ·split at h
      ·exact(zvz (ih ty.in)).mono (by omega) _ _ _ h
      ·split at h
       ·exact(zv0 (by omega) (ih ty.in)).mono (by omega) _ _ _ h
       ·split at h
        ·rename_i hc;have ha:a<=s.size:=by
          rcases hfs:ty.fields with _|⟨g,fs⟩
          ·exact absurd hfs hc.2
          ·rw[hfs,zbp]at h;split at h
           ·cases h
           ·rename_i y nx hy;have:=ih _ _ _ _ hy;omega
         have:=znl ih ty.fields _ a _ d k (zbv 123) ha h;rw[if_neg hc.2]at this;have e0:ByteArray.empty.size=0:=rfl;have e2:(4*(n+1)+20)*(k-a)=(4*n+20+3)*(k-a)+(k-a):=by rw[show 4*(n+1)+20=(4*n+20+3)+1 by omega,xu,qe]
         omega
        ·cases h
theorem znu {s d:ByteArray}{n a k:Nat}{ty:Ty}(h:dec s n ty a=some (d,k)):a<k/\k<=s.size/\d.size<=(4*n+20)*(k-a):=znt s n ty a d k h
section
def uRet (a:Nat):Option (Nat×Nat)->Value
 |some (u,e)=>.tuple #[.int .i64 u,.int .i64 e,.bool true]
 |none=>.tuple #[.int .i64 0,.int .i64 a,.bool false]
set_option maxRecDepth 10000 in
theorem zsu (s:ByteArray)(a:Nat)(w:World)(_hs:s.size<=9000000)(ha:a<=s.size) :
  Calls Tryz.prog 292 #[.string s,.int .i64 a] w fun e w'=>e=.returned (uRet a (uAt s a))/\w'=w:=by
 obtain⟨R,hR⟩:∃ R,R=uAt s a:=⟨_,rfl⟩;rw[<- hR];have HR:Hid (R=uAtL s a 8 0 0 1):=hR;clear hR
 go_enter Tryz.func292,Tryz.ntmps292
 go_wp2_with fail
 go_loop [7,8,9] (fun vu vx vk=>∃ (m k u x:Nat),k+m=8/\vk=.int .i64 k/\vu=.int .i64 u/\vx=.int .i64 x/\u<x/\1<=x/\x<=72057594037927936/\Hid (x*128 ^ m=72057594037927936)/\Hid (R=uAtL s a m k u x)) (fun _ _ k=>8-(intOf k).toNat)
 case atStart=>exact⟨8,0,0,1,rfl,rfl,rfl,rfl,by omega,by omega,by omega,by show 1*128 ^ 8=_;omega,HR⟩
 case round =>
  obtain⟨m,k,u,x,hkm,rfl,rfl,rfl,hux,hx1,hx2,hxm,hR⟩:=hrel;cases m with
  |zero =>
   have hk8:¬ (k:Int)<8:=by omega
   have hr:Hid (R=none):=hR
   go_wp2_with fail
   go_ret3
   rw[hr.out];exact⟨rfl,rfl⟩
  |succ m =>
   have hk8:(k:Int)<8:=by omega
   have hx3:x<=562949953421312:=by
    have:=hxm.out;rw[xp]at this;have hp:1<=128 ^ m:=Nat.pow_pos (by omega);have h2:x*128<=x*(128 ^ m*128):=xv x (by omega);omega
   have hhi:=zeq s (a+k);obtain⟨b,hb⟩:∃ b,b=bAt s (a+k):=⟨_,rfl⟩;have hby:∀ w,Calls Tryz.prog 245 #[.string s,.int .i64 ((a:Int)+(k:Int))] w fun e w'=>e=.returned (.int .i64 b)/\w=w':=fun w=>by
    rw[hb];exact(zba s (a+k) w _hs).mono (fun _ _ ⟨h1,h2⟩=>⟨h1,h2.symm⟩)
   rw[<- hb]at hhi;by_cases h0:b<0
   ·have hr:Hid (R=none):=by show _=_;rw[hR.out,uAtL,<- hb,if_pos (.inl h0)]
    clear hb
    go_wp2_with (go_at_call 245;refine(hby _).mono ?_;rintro e _ ⟨rfl,rfl⟩)
    go_ret3
    rw[hr.out];exact⟨rfl,rfl⟩
   ·by_cases hz:b=0/\0<k
    ·have hr:Hid (R=none):=by show _=_;rw[hR.out,uAtL,<- hb,if_pos (.inr hz)]
     have hz1:(b == 0)=true:=by simp[hz.1]
     have hz2:(0:Int)<(k:Int):=by omega
     clear hb hz
     go_wp2_with (go_at_call 245;refine(hby _).mono ?_;rintro e _ ⟨rfl,rfl⟩)
     go_ret3
     rw[hr.out];exact⟨rfl,rfl⟩
    ·have hR2:Hid (R=if b<128 then some (u+b.toNat * x,a+k+1) else uAtL s a m (k+1) (u+(b.toNat-128)*x) (x*128)):=by
      show _=_;rw[hR.out,uAtL,<- hb,if_neg (by omega)]
     have hbx:0<=b*(x:Int)/\b*(x:Int)<=255*(x:Int):=⟨Int.mul_nonneg (by omega) (by omega),xo hhi (by omega)⟩;obtain⟨hbx1,hbx2⟩:=hbx;clear hR hb;have hsp:((b == 0)=false)\/((b == 0)=true/\¬ (0:Int)<(k:Int)):=by
      by_cases e:b=0
      ·right;exact⟨by simp[e],by omega⟩
      ·left;simpa using e
     clear hz;by_cases h128:b<128
     ·have hr:Hid (R=some (u+b.toNat * x,a+k+1)):=by show _=_;rw[hR2.out,if_pos h128]
      clear hR2;rcases hsp with hsp|⟨hsp,hsp2⟩
      all_goals
       go_wp2_with (go_at_call 245;refine(hby _).mono ?_;rintro e _ ⟨rfl,rfl⟩)
       go_ret3
       rw[hr.out];refine⟨ret3 (zdc ?_) (zdc ?_) rfl,rfl⟩
       ·rw[qf,xq,show ((b.toNat:Nat):Int)=b by omega]
       ·omega
     ·have hr:Hid (R=uAtL s a m (k+1) (u+(b.toNat-128)*x) (x*128)):=by show _=_;rw[hR2.out,if_neg h128]
      clear hR2;have hcx:0<=(b-128)*(x:Int)/\(b-128)*(x:Int)<=127*(x:Int):=⟨Int.mul_nonneg (by omega) (by omega),xo (by omega) (by omega)⟩;obtain⟨hcx1,hcx2⟩:=hcx;have hnat:(b.toNat-128)*x<=127*x:=xm x (by omega);rcases hsp with hsp|⟨hsp,hsp2⟩
      all_goals
       go_wp2_with (go_at_call 245;refine(hby _).mono ?_;rintro e _ ⟨rfl,rfl⟩)
       go_round
       case rel =>
        refine⟨m,k+1,u+(b.toNat-128)*x,x*128,by omega,by go_num,zdc ?_,zdc ?_,by omega,by omega,by omega,?_,hr⟩
        ·rw[qf,xq,show ((b.toNat-128:Nat):Int)=b-128 by omega]
        ·rw[xq];rfl
        ·show _=_;have:=hxm.out;rw[xp,qi (128 ^ m)]at this;rw[qh];exact this
       case measure=>simp[intOf];omega
end
end Go.Proofs.YtkkekopomiehlabGreatDoor
