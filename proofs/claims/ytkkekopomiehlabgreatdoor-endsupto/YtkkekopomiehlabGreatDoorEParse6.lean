import Derived.Test.YtkkekopomiehlabGreatDoorEEncAll
set_option linter.unusedVariables false
set_option linter.unusedSimpArgs false
set_option maxHeartbeats 40000000
set_option maxRecDepth 4000
open ByteArray renaming empty->xe,size_append->xf
open Option.some renaming injEq->xg
open Prod.mk renaming injEq->xh
open Nat renaming le_refl->xj,mul_le_mul_right->xm,add_mul->xp,zero_le->xq,pow_succ->xv,one_mul->xz,mul_le_mul_left->qd,mul_assoc->qj,mul_comm->qk
open Int renaming mul_le_mul_of_nonneg_right->xo,natCast_mul->xy,toNat_natCast->qf,natCast_add->qh
open List renaming getElem?_eq_getElem->xu,any_eq_false->qe,any_eq_true->qg,mem_range->qi,range->qm
open Go.RowKit
namespace Go.Proofs.YtkkekopomiehlabGreatDoor
theorem zzd {s:ByteArray}{a k:Nat}{ty:Ty}(h:zb4 s a=some (ty,k)):a<k/\k<=s.size:=by
 unfold zb4 at h;simp only at h;have hle:=zh7 s a (s.size-a) a;generalize lEnd s a (s.size-a) a=E at h hle;split at h
 ·cases h
 ·split at h
  ·split at h
   ·simp only[xg,xh]at h;have:E+1<s.size:=zaw (by omega);omega
   ·cases h
  ·split at h
   ·simp only[xg,xh]at h;have:E<s.size:=zaw (by omega);omega
   ·cases h
theorem zp0 {pt:Nat->Option (Ty×Nat)}{ef:Ty->Nat->Option (ByteArray×Nat)}{s:ByteArray}(hp:∀ a ty k,pt a=some (ty,k)->a<k/\k<=s.size)(he:∀ ty j d k,ef ty j=some (d,k)->j<k/\k<=s.size)
  {i k:Nat} {f:Nat×Ty×ByteArray} (h:zar pt ef s i=some (f,k)):i<k/\k<=s.size:=by
 unfold zar at h;split at h
 ·split at h
  ·cases h
  ·rename_i ty k' hx;have:=hp _ _ _ hx;split at h
   ·split at h
    ·cases h
    ·rename_i d m hy;have:=he _ _ _ _ hy;simp only[xg,xh]at h;omega
   ·simp only[xg,xh]at h;omega
 ·cases h
theorem zp1 {pf:Nat->Option ((Nat×Ty×ByteArray)×Nat)}{s:ByteArray}(hp:∀ a f k,pf a=some (f,k)->a<k/\k<=s.size):∀ {m a k:Nat} {acc fs:List (Nat×Ty×ByteArray)},za1 pf s m a acc=some (fs,k)->a<k/\k<=s.size
 |0,a,k,acc,fs,h=>by simp[za1]at h
 |m+1,a,k,acc,fs,h=>by
  rw[za1]at h;split at h
  ·cases h
  ·rename_i f k' hx;have:=hp _ _ _ hx;split at h
   ·cases h
   ·split at h
    ·simp only[xg,xh]at h;have:k'<s.size:=zaw (by omega);omega
    ·split at h
     ·have:=zp1 hp h;omega
     ·cases h
theorem zcz (st:Bool)(s:ByteArray):∀ (n i:Nat) (ty:Ty) (k:Nat),zae st s n i=some (ty,k)->i<k/\k<=s.size
 |0,i,ty,k,h=>by simp[zae]at h
 |n+1,i,ty,k,h=>by
  have ih:=zcz st s n;rw[zae]at h;have one:∀ {c:Nat},some (za3 c,i+1)=some (ty,k)->0<=bAt s i->i<k/\k<=s.size:=fun h hb=>by
   simp only[xg,xh]at h;have:=zaw hb;omega
  split at h
  ·exact one h (by omega)
  ·split at h
   ·exact one h (by omega)
   ·split at h
    ·exact one h (by omega)
    ·split at h
     ·have:=zzd h;omega
     ·split at h
      ·unfold zcd at h;split at h
       ·cases h
       ·rename_i t k' hx;have:=ih _ _ _ hx;split at h
        ·simp only[xg,xh]at h;have:k'<s.size:=zaw (by omega);omega
        ·cases h
      ·split at h
       ·unfold zce at h;split at h
        ·cases h
        ·rename_i t k' hx;have:=ih _ _ _ hx;split at h
         ·cases h
         ·simp only[xg,xh]at h;omega
       ·split at h
        ·unfold pRec at h;split at h
         ·cases h
         ·rename_i fs k' hx;have:=zp1 (fun a f k h=>zp0 ih (fun ty j d k h=>⟨(zdf h).1,(zdf h).2.1⟩) h) hx;simp only[xg,xh]at h;omega
        ·cases h
theorem zhe {f:FuncId}{args:Array Value}{w:World}{B n:Nat}{r:Option (Ty×Nat)}(h:Calls Tryz.prog f args w fun e w'=>PRet B n r e w'/\Below w.heap.size w w')(hr:r=none) :
  Calls Tryz.prog f args w fun e w'=>∃ k':Nat,e=.returned (.tuple #[.agg #[.int .i64 0,.string xe,.bool false,.slice none 0 0,.slice none 0 0],.int .i64 k',.bool false])/\Below w.heap.size w w':=by
 refine h.mono ?_;rintro e w' ⟨h1,h2⟩;rw[hr]at h1;obtain⟨k',h1⟩:=h1;exact⟨k',h1,h2⟩
theorem zhf {f:FuncId}{args:Array Value}{w:World}{B n:Nat}{r:Option (Ty×Nat)}{ty:Ty}{k:Nat}(h:Calls Tryz.prog f args w fun e w'=>PRet B n r e w'/\Below w.heap.size w w')(hr:r=some (ty,k)) :
  Calls Tryz.prog f args w fun e w'=>∃ ai li ci af lf cf,e=.returned (.tuple #[.agg #[.int .i64 ty.kind,.string ty.letters,.bool ty.op,.slice ai li ci,.slice af lf cf],.int .i64 k,.bool true])/\RepB (fun b=>B<=b) n w' ai li ci af lf cf ty/\Below w.heap.size w w':=by
 refine h.mono ?_;rintro e w' ⟨h1,h2⟩;rw[hr]at h1;obtain⟨ai,li,ci,af,lf,cf,h1,h3⟩:=h1;exact⟨ai,li,ci,af,lf,cf,h1,h3,h2⟩
theorem zz6 {s:ByteArray}(hs:s.size<=4096):ParseTypeOK 0 s:=by
 intro i w hi hn;have _hs:s.size<=9000000:=by omega
 have hB:∀ o,Below w.heap.size w (w.alloc o):=fun o=>(Below.refl _ _).alloc (xj _) _;have hb:Hid (bAt s i=-1):=zd0 s i (by omega);have h105':(bAt s i == 105)=false:=by rw[hb.out];rfl
 have h108':(bAt s i == 108)=false:=by rw[hb.out];rfl
 have h115':(bAt s i == 115)=false:=by rw[hb.out];rfl
 have h60':(bAt s i == 60)=false:=by rw[hb.out];rfl
 have h91':(bAt s i == 91)=false:=by rw[hb.out];rfl
 have h63':(bAt s i == 63)=false:=by rw[hb.out];rfl
 have h123':(bAt s i == 123)=false:=by rw[hb.out];rfl
 go_enter Tryz.func226,Tryz.ntmps226
 go_wp2_with (go_at_call 245;refine(zan _ _ _ (by omega) _hs).mono ?_;rintro e w' ⟨rfl,rfl⟩)
 exact bodyPost_ret (v:=.tuple #[.agg #[.int .i64 0,.string xe,.bool false,.slice none 0 0,.slice none 0 0],.int .i64 i,.bool false]) (by simp[results,Tryz.results226,go_sem];rfl) rfl ⟨⟨i,rfl⟩,hB _⟩
theorem zz5 {n:Nat}{s:ByteArray}(IH:ParseTypeOK n s)(hs:s.size<=4096)(hn100:n<=100):ParseTypeOK (n+1) s:=by
 intro i w hi hn;have _hs:s.size<=9000000:=by omega
 have hB:∀ o,Below w.heap.size w (w.alloc o):=fun o=>(Below.refl _ _).alloc (xj _) _;have hbd:=fun a ty k (h:zae false s n a=some (ty,k))=>(zcz false s n a ty k h).2;have hfbd:=fun i f k (h:zar (zae false s n) (enc false s n) s i=some (f,k))=>zp0 (zcz false s n) (fun ty j d k h=>⟨(zdf h).1,(zdf h).2.1⟩) h;have IF:FieldOK n s:=fun i w h1 h2=>zzy IH (zkc hs n (by omega)) hs i w h1 h2 hbd;by_cases h105:bAt s i=105
 ·have h105':(bAt s i == 105)=true:=by simp[h105]
  have hil:i<s.size:=zaw (by omega);have hr':Hid (zae false s (n+1) i=some (za3 105,i+1)):=by show _=_;rw[zae,if_pos h105]
  have HK:Hid (bAt s i=105):=h105;clear h105 hbd hfbd
  go_enter Tryz.func226,Tryz.ntmps226
  go_wp2_with ((go_at_call 245;refine(zan _ _ _ (by omega) _hs).mono ?_;rintro e w' ⟨rfl,rfl⟩))
  refine bodyPost_ret (v:=.tuple #[.agg #[.int .i64 (bAt s i),.string xe,.bool false,.slice none 0 0,.slice none 0 0],.int .i64 (i+1:Nat),.bool true]) (by simp[results,Tryz.results226,go_sem];rfl) rfl ?_;rw[hr'.out,HK.out];exact⟨⟨_,_,_,_,_,_,rfl,RepB.plain (xq _) (by simp[za3]) rfl rfl⟩,hB _⟩
 have h105':(bAt s i == 105)=false:=by simpa using h105
 by_cases h108:bAt s i=108
 ·have h108':(bAt s i == 108)=true:=by simp[h108]
  have hil:i<s.size:=zaw (by omega);have hr':Hid (zae false s (n+1) i=some (za3 108,i+1)):=by show _=_;rw[zae,if_neg h105,if_pos h108]
  have HK:Hid (bAt s i=108):=h108;clear h105 h108 hbd hfbd
  go_enter Tryz.func226,Tryz.ntmps226
  go_wp2_with ((go_at_call 245;refine(zan _ _ _ (by omega) _hs).mono ?_;rintro e w' ⟨rfl,rfl⟩))
  refine bodyPost_ret (v:=.tuple #[.agg #[.int .i64 (bAt s i),.string xe,.bool false,.slice none 0 0,.slice none 0 0],.int .i64 (i+1:Nat),.bool true]) (by simp[results,Tryz.results226,go_sem];rfl) rfl ?_;rw[hr'.out,HK.out];exact⟨⟨_,_,_,_,_,_,rfl,RepB.plain (xq _) (by simp[za3]) rfl rfl⟩,hB _⟩
 have h108':(bAt s i == 108)=false:=by simpa using h108
 by_cases h115:bAt s i=115
 ·have h115':(bAt s i == 115)=true:=by simp[h115]
  have hil:i<s.size:=zaw (by omega);have hr':Hid (zae false s (n+1) i=some (za3 115,i+1)):=by show _=_;rw[zae,if_neg h105,if_neg h108,if_pos h115]
  have HK:Hid (bAt s i=115):=h115;clear h105 h108 h115 hbd hfbd
  go_enter Tryz.func226,Tryz.ntmps226
  go_wp2_with ((go_at_call 245;refine(zan _ _ _ (by omega) _hs).mono ?_;rintro e w' ⟨rfl,rfl⟩))
  refine bodyPost_ret (v:=.tuple #[.agg #[.int .i64 (bAt s i),.string xe,.bool false,.slice none 0 0,.slice none 0 0],.int .i64 (i+1:Nat),.bool true]) (by simp[results,Tryz.results226,go_sem];rfl) rfl ?_;rw[hr'.out,HK.out];exact⟨⟨_,_,_,_,_,_,rfl,RepB.plain (xq _) (by simp[za3]) rfl rfl⟩,hB _⟩
 have h115':(bAt s i == 115)=false:=by simpa using h115
 by_cases h60:bAt s i=60
 ·have h60':(bAt s i == 60)=true:=by simp[h60]
  have hil:i<s.size:=zaw (by omega);have hr':Hid (zae false s (n+1) i=zb4 s (i+1)):=by show _=_;rw[zae,if_neg h105,if_neg h108,if_neg h115,if_pos h60]
  have hc:=fun w1=>zzx n hs (i+1) w1 (by omega);clear h105 h108 h115 h60 hbd hfbd;cases hx:zb4 s (i+1) with
  |none =>
   have hcall:=fun w1=>zhe (hc w1) hx;clear hc
   go_enter Tryz.func226,Tryz.ntmps226
   go_wp2_with (first|(go_at_call 245;refine(zan _ _ _ (by omega) _hs).mono ?_;rintro e w' ⟨rfl,rfl⟩)|(go_at_call 277;refine(hcall _).mono ?_;rintro e w1 ⟨k',rfl,hb1⟩;obtain⟨hc1,hf1⟩:=zap hb1;have hz1:w.heap.size<w1.heap.size:=(by have:=hb1.size;simp at this;omega)))
   refine bodyPost_ret (v:=.tuple #[.agg #[.int .i64 0,.string xe,.bool false,.slice none 0 0,.slice none 0 0],.int .i64 k',.bool false]) (by simp[results,Tryz.results226,go_sem,hc1,hz1]) rfl ?_;rw[hr'.out,hx];exact⟨⟨k',rfl⟩,Below.set5 ((hB _).trans (hb1.mono (by simp))) (xj _)⟩
  |some p =>
   obtain⟨ty,k⟩:=p;have hcall:=fun w1=>zhf (hc w1) hx;clear hc
   go_enter Tryz.func226,Tryz.ntmps226
   go_wp2_with (first|(go_at_call 245;refine(zan _ _ _ (by omega) _hs).mono ?_;rintro e w' ⟨rfl,rfl⟩)|(go_at_call 277;refine(hcall _).mono ?_;rintro e w1 ⟨ai,li,ci,af,lf,cf,rfl,hr1,hb1⟩;obtain⟨hc1,hf1⟩:=zap hb1;have hz1:w.heap.size<w1.heap.size:=(by have:=hb1.size;simp at this;omega)))
   refine bodyPost_ret (v:=.tuple #[.agg #[.int .i64 ty.kind,.string ty.letters,.bool ty.op,.slice ai li ci,.slice af lf cf],.int .i64 k,.bool true]) (by simp[results,Tryz.results226,go_sem,hc1,hz1]) rfl ?_;rw[hr'.out,hx];exact⟨⟨ai,li,ci,af,lf,cf,rfl,(hr1.keep (fun b o v hS h=>zco h (by simp at hS;omega))).imp (fun b _ h=>by simp at h;omega)⟩,Below.set5 ((hB _).trans (hb1.mono (by simp))) (xj _)⟩
 have h60':(bAt s i == 60)=false:=by simpa using h60
 by_cases h91:bAt s i=91
 ·have h91':(bAt s i == 91)=true:=by simp[h91]
  have hil:i<s.size:=zaw (by omega);have hr':Hid (zae false s (n+1) i=zcd (zae false s n) s (i+1)):=by show _=_;rw[zae,if_neg h105,if_neg h108,if_neg h115,if_neg h60,if_pos h91]
  have hc:=fun w1=>zz0 IH hs (i+1) w1 (by omega) (by omega) (hbd (i+1));clear h105 h108 h115 h60 h91 hbd hfbd;cases hx:zcd (zae false s n) s (i+1) with
  |none =>
   have hcall:=fun w1=>zhe (hc w1) hx;clear hc
   go_enter Tryz.func226,Tryz.ntmps226
   go_wp2_with (first|(go_at_call 245;refine(zan _ _ _ (by omega) _hs).mono ?_;rintro e w' ⟨rfl,rfl⟩)|(go_at_call 278;refine(hcall _).mono ?_;rintro e w1 ⟨k',rfl,hb1⟩;obtain⟨hc1,hf1⟩:=zap hb1;have hz1:w.heap.size<w1.heap.size:=(by have:=hb1.size;simp at this;omega)))
   refine bodyPost_ret (v:=.tuple #[.agg #[.int .i64 0,.string xe,.bool false,.slice none 0 0,.slice none 0 0],.int .i64 k',.bool false]) (by simp[results,Tryz.results226,go_sem,hc1,hz1]) rfl ?_;rw[hr'.out,hx];exact⟨⟨k',rfl⟩,Below.set5 ((hB _).trans (hb1.mono (by simp))) (xj _)⟩
  |some p =>
   obtain⟨ty,k⟩:=p;have hcall:=fun w1=>zhf (hc w1) hx;clear hc
   go_enter Tryz.func226,Tryz.ntmps226
   go_wp2_with (first|(go_at_call 245;refine(zan _ _ _ (by omega) _hs).mono ?_;rintro e w' ⟨rfl,rfl⟩)|(go_at_call 278;refine(hcall _).mono ?_;rintro e w1 ⟨ai,li,ci,af,lf,cf,rfl,hr1,hb1⟩;obtain⟨hc1,hf1⟩:=zap hb1;have hz1:w.heap.size<w1.heap.size:=(by have:=hb1.size;simp at this;omega)))
   refine bodyPost_ret (v:=.tuple #[.agg #[.int .i64 ty.kind,.string ty.letters,.bool ty.op,.slice ai li ci,.slice af lf cf],.int .i64 k,.bool true]) (by simp[results,Tryz.results226,go_sem,hc1,hz1]) rfl ?_;rw[hr'.out,hx];exact⟨⟨ai,li,ci,af,lf,cf,rfl,(hr1.keep (fun b o v hS h=>zco h (by simp at hS;omega))).imp (fun b _ h=>by simp at h;omega)⟩,Below.set5 ((hB _).trans (hb1.mono (by simp))) (xj _)⟩
 have h91':(bAt s i == 91)=false:=by simpa using h91
 by_cases h63:bAt s i=63
 ·have h63':(bAt s i == 63)=true:=by simp[h63]
  have hil:i<s.size:=zaw (by omega);have hr':Hid (zae false s (n+1) i=zce (zae false s n) (i+1)):=by show _=_;rw[zae,if_neg h105,if_neg h108,if_neg h115,if_neg h60,if_neg h91,if_pos h63]
  have hc:=fun w1=>zz1 IH hs (i+1) w1 (by omega) (by omega) (hbd (i+1));clear h105 h108 h115 h60 h91 h63 hbd hfbd;cases hx:zce (zae false s n) (i+1) with
  |none =>
   have hcall:=fun w1=>zhe (hc w1) hx;clear hc
   go_enter Tryz.func226,Tryz.ntmps226
   go_wp2_with (first|(go_at_call 245;refine(zan _ _ _ (by omega) _hs).mono ?_;rintro e w' ⟨rfl,rfl⟩)|(go_at_call 279;refine(hcall _).mono ?_;rintro e w1 ⟨k',rfl,hb1⟩;obtain⟨hc1,hf1⟩:=zap hb1;have hz1:w.heap.size<w1.heap.size:=(by have:=hb1.size;simp at this;omega)))
   refine bodyPost_ret (v:=.tuple #[.agg #[.int .i64 0,.string xe,.bool false,.slice none 0 0,.slice none 0 0],.int .i64 k',.bool false]) (by simp[results,Tryz.results226,go_sem,hc1,hz1]) rfl ?_;rw[hr'.out,hx];exact⟨⟨k',rfl⟩,Below.set5 ((hB _).trans (hb1.mono (by simp))) (xj _)⟩
  |some p =>
   obtain⟨ty,k⟩:=p;have hcall:=fun w1=>zhf (hc w1) hx;clear hc
   go_enter Tryz.func226,Tryz.ntmps226
   go_wp2_with (first|(go_at_call 245;refine(zan _ _ _ (by omega) _hs).mono ?_;rintro e w' ⟨rfl,rfl⟩)|(go_at_call 279;refine(hcall _).mono ?_;rintro e w1 ⟨ai,li,ci,af,lf,cf,rfl,hr1,hb1⟩;obtain⟨hc1,hf1⟩:=zap hb1;have hz1:w.heap.size<w1.heap.size:=(by have:=hb1.size;simp at this;omega)))
   refine bodyPost_ret (v:=.tuple #[.agg #[.int .i64 ty.kind,.string ty.letters,.bool ty.op,.slice ai li ci,.slice af lf cf],.int .i64 k,.bool true]) (by simp[results,Tryz.results226,go_sem,hc1,hz1]) rfl ?_;rw[hr'.out,hx];exact⟨⟨ai,li,ci,af,lf,cf,rfl,(hr1.keep (fun b o v hS h=>zco h (by simp at hS;omega))).imp (fun b _ h=>by simp at h;omega)⟩,Below.set5 ((hB _).trans (hb1.mono (by simp))) (xj _)⟩
 have h63':(bAt s i == 63)=false:=by simpa using h63
 by_cases h123:bAt s i=123
 ·have h123':(bAt s i == 123)=true:=by simp[h123]
  have hil:i<s.size:=zaw (by omega);have hr':Hid (zae false s (n+1) i=pRec (zar (zae false s n) (enc false s n) s) s (i+1)):=by show _=_;rw[zae,if_neg h105,if_neg h108,if_neg h115,if_neg h60,if_neg h91,if_neg h63,if_pos h123]
  have hc:=fun w1=>zz4 IF hs (i+1) w1 (by omega) (by omega) hfbd;clear h105 h108 h115 h60 h91 h63 h123 hbd hfbd;cases hx:pRec (zar (zae false s n) (enc false s n) s) s (i+1) with
  |none =>
   have hcall:=fun w1=>zhe (hc w1) hx;clear hc
   go_enter Tryz.func226,Tryz.ntmps226
   go_wp2_with (first|(go_at_call 245;refine(zan _ _ _ (by omega) _hs).mono ?_;rintro e w' ⟨rfl,rfl⟩)|(go_at_call 280;refine(hcall _).mono ?_;rintro e w1 ⟨k',rfl,hb1⟩;obtain⟨hc1,hf1⟩:=zap hb1;have hz1:w.heap.size<w1.heap.size:=(by have:=hb1.size;simp at this;omega)))
   refine bodyPost_ret (v:=.tuple #[.agg #[.int .i64 0,.string xe,.bool false,.slice none 0 0,.slice none 0 0],.int .i64 k',.bool false]) (by simp[results,Tryz.results226,go_sem,hc1,hz1]) rfl ?_;rw[hr'.out,hx];exact⟨⟨k',rfl⟩,Below.set5 ((hB _).trans (hb1.mono (by simp))) (xj _)⟩
  |some p =>
   obtain⟨ty,k⟩:=p;have hcall:=fun w1=>zhf (hc w1) hx;clear hc
   go_enter Tryz.func226,Tryz.ntmps226
   go_wp2_with (first|(go_at_call 245;refine(zan _ _ _ (by omega) _hs).mono ?_;rintro e w' ⟨rfl,rfl⟩)|(go_at_call 280;refine(hcall _).mono ?_;rintro e w1 ⟨ai,li,ci,af,lf,cf,rfl,hr1,hb1⟩;obtain⟨hc1,hf1⟩:=zap hb1;have hz1:w.heap.size<w1.heap.size:=(by have:=hb1.size;simp at this;omega)))
   refine bodyPost_ret (v:=.tuple #[.agg #[.int .i64 ty.kind,.string ty.letters,.bool ty.op,.slice ai li ci,.slice af lf cf],.int .i64 k,.bool true]) (by simp[results,Tryz.results226,go_sem,hc1,hz1]) rfl ?_;rw[hr'.out,hx];exact⟨⟨ai,li,ci,af,lf,cf,rfl,(hr1.keep (fun b o v hS h=>zco h (by simp at hS;omega))).imp (fun b _ h=>by simp at h;omega)⟩,Below.set5 ((hB _).trans (hb1.mono (by simp))) (xj _)⟩
 have h123':(bAt s i == 123)=false:=by simpa using h123
 have hr':Hid (zae false s (n+1) i=none):=by show _=_;rw[zae,if_neg h105,if_neg h108,if_neg h115,if_neg h60,if_neg h91,if_neg h63,if_neg h123]
 clear h105 h108 h115 h60 h91 h63 h123 hbd hfbd
 go_enter Tryz.func226,Tryz.ntmps226
 go_wp2_with ((go_at_call 245;refine(zan _ _ _ (by omega) _hs).mono ?_;rintro e w' ⟨rfl,rfl⟩))
 refine bodyPost_ret (v:=.tuple #[.agg #[.int .i64 0,.string xe,.bool false,.slice none 0 0,.slice none 0 0],.int .i64 i,.bool false]) (by simp[results,Tryz.results226,go_sem];rfl) rfl ?_;rw[hr'.out];exact⟨⟨i,rfl⟩,hB _⟩
theorem zqk {s:ByteArray}(hs:s.size<=4096):∀ n,n<=101->ParseTypeOK n s
 |0,_=>zz6 hs
 |n+1,hn=>zz5 (zqk hs n (by omega)) hs (by omega)
def tw (l:ByteArray):Bool:=(qm l.size).any fun i=>(qm i).any fun j=>bAt l i == bAt l j
theorem zsj {l:ByteArray}{i j:Nat}(h1:j<i)(h2:i<l.size)(h:bAt l i=bAt l j):tw l=true:=by
 unfold tw;rw[qg];exact⟨i,by simpa using h2,by rw[qg];exact⟨j,by simpa using h1,by simpa using h⟩⟩
theorem yad9 {l:ByteArray}(h:∀ i j,j<i->i<l.size->bAt l i≠bAt l j):tw l=false:=by
 unfold tw;rw[qe];intro i hi;simp only[qi]at hi;rw[Bool.not_eq_true,qe];intro j hj;simp only[qi]at hj;simpa using h i j hj hi
section
def decS:Nat->Nat->ByteArray
 |0,n=>oneB (48+n)
 |m+1,n=>if n<10 then oneB (48+n) else decS m (n / 10)++oneB (48+n % 10)
theorem zeu:∀ m n,(decS m n).size<=m+1
 |0,n=>by rw[decS,zak];omega
 |m+1,n=>by
  rw[decS];split
  ·rw[zak];omega
  ·have:=zeu m (n / 10);rw[xf,zak];omega
theorem zj0 (W:World)(b n:Nat)(hn:n<256)(h:W.cell? ⟨b,0,none⟩=some (.int .u8 n)) :
  (convert 217 9 (.slice (some ⟨b,0,none⟩) 1 1)).run Tryz.prog W=.ok (.string (oneB n)) W:=by
 have hc:=run_convert_bytes_arg (P:=Tryz.prog) W 217 5 (Tryz.underlying217) (Tryz.underlying5) b 0 1 1 [(n:Int)] rfl (fun i hi=>by cases i with|zero=>simpa using h|succ=>omega) 9 (Tryz.underlying9);rw[hc];simp[oneB,strOfNums]
def decI (n:Int):ByteArray:=if n<0 then ⟨#[45]⟩++decS 18 (-n).toNat else decS 18 n.toNat
end
def uAtL (s:ByteArray)(a:Nat):Nat->Nat->Nat->Nat->Option (Nat×Nat)
 |0,_,_,_=>none
 |m+1,k,u,x =>
  if bAt s (a+k)<0\/(bAt s (a+k)=0/\0<k) then none
  else if bAt s (a+k)<128 then some (u+(bAt s (a+k)).toNat * x,a+k+1)
  else uAtL s a m (k+1) (u+((bAt s (a+k)).toNat-128)*x) (x*128)
def uAt (s:ByteArray)(a:Nat):Option (Nat×Nat):=uAtL s a 8 0 0 1
theorem zsn (s:ByteArray)(a:Nat):∀ (m k u x v e:Nat),u<x->x*128 ^ m<=72057594037927936->uAtL s a m k u x=some (v,e)->v<72057594037927936/\a+k<e/\e<=s.size
 |0,k,u,x,v,e,_,_,h=>by simp[uAtL]at h
 |m+1,k,u,x,v,e,hu,hx,h=>by
  rw[uAtL]at h;have hhi:=zeq s (a+k);have hp:x*128<=x*128 ^ (m+1):=qd x (by rw[xv];have:=Nat.pow_pos (n:=m) (show 0<128 by omega);omega);split at h
  ·cases h
  ·rename_i hc;split at h
   ·rename_i hd;simp only[xg,xh]at h;have hl:a+k<s.size:=zaw (by omega);have hm:(bAt s (a+k)).toNat * x<=127*x:=xm x (by omega);omega
   ·have hm:((bAt s (a+k)).toNat-128)*x<=127*x:=xm x (by omega);have:=zsn s a m (k+1) _ _ v e (by omega) (by rw[xv]at hx;rw[qj];rw[qk 128];exact hx) h;omega
def zdb (u:Nat):Int:=if u % 2=1 then -((u / 2:Nat):Int)-1 else ((u / 2:Nat):Int)
def zbe (lo hi:Int)(s:ByteArray)(a:Nat):Option (ByteArray×Nat) :=
 match uAt s a with
 |none=>none
 |some (u,e)=>if zdb u<lo\/hi<zdb u then none else some (decI (zdb u),e)
theorem zso {s:ByteArray}{a u e:Nat}(h:uAt s a=some (u,e)):u<72057594037927936/\a<e/\e<=s.size:=by
 have:=zsn s a 8 0 0 1 u e (by omega) (by omega) h;omega
def allS (s:ByteArray):Nat->Nat->Bool
 |0,_=>true
 |m+1,k=>inS (bAt s k)&&allS s m (k+1)
def quo:ByteArray:=⟨#[34]⟩
def zca (s:ByteArray)(a:Nat):Option (ByteArray×Nat) :=
 if bAt s a<0\/60<bAt s a then none
 else if allS s (bAt s a).toNat (a+1)=true then some (quo++s.extract (a+1) (a+1+(bAt s a).toNat)++quo,a+1+(bAt s a).toNat) else none
def zcv (l s:ByteArray)(a:Nat):Option (ByteArray×Nat) :=
 if bAt s a<0\/bAt l (bAt s a).toNat<0 then none else some (oneB (bAt l (bAt s a).toNat).toNat,a+1)
def zb0 (f:Nat->Option (ByteArray×Nat)):Nat->Nat->Nat->ByteArray->Option (ByteArray×Nat)
 |0,_,fr,t=>some (t++⟨#[93]⟩,fr)
 |m+1,k,fr,t =>
  match f fr with
  |none=>none
  |some (x,nx)=>zb0 f m (k+1) nx ((if 0<k then t++⟨#[44]⟩ else t)++x)
def zdl (f:Nat->Option (ByteArray×Nat))(s:ByteArray)(a:Nat):Option (ByteArray×Nat) :=
 if bAt s a<0\/16<bAt s a then none else zb0 f (bAt s a).toNat 0 (a+1) ⟨#[91]⟩
def zb9 (f:Nat->Option (ByteArray×Nat))(s:ByteArray)(a:Nat):Option (ByteArray×Nat) :=
 if bAt s a=0 then some (⟨#[95]⟩,a+1) else if bAt s a=1 then f (a+1) else none
def zbp (f:Ty->Nat->Option (ByteArray×Nat)):List (Nat×Ty×ByteArray)->ByteArray->Nat->ByteArray->Option (ByteArray×Nat)
 |[],_,fr,t=>some (t++⟨#[125]⟩,fr)
 |g::fs,mk,fr,t =>
  match f g.2.1 fr with
  |none=>none
  |some (x,nx)=>zbp f fs ⟨#[44]⟩ nx (t++(((mk++oneB g.1)++⟨#[58]⟩)++x))
def dec (s:ByteArray):Nat->Ty->Nat->Option (ByteArray×Nat)
 |0,_,_=>none
 |n+1,ty,a =>
  if ty.kind=105 then zbe (-2147483648) 2147483647 s a
  else if ty.kind=108 then zbe (-1000000000000000) 1000000000000000 s a
  else if ty.kind=115 then zca s a
  else if ty.kind=60 then zcv ty.letters s a
  else if ty.kind=91 then zdl (dec s n ty.in) s a
  else if ty.kind=63 then zb9 (dec s n ty.in) s a
  else if ty.kind=123/\ty.fields≠[] then zbp (dec s n) ty.fields ⟨#[123]⟩ a xe
  else none
theorem zj2 (n:Int):(decI n).size<=20:=by
 unfold decI;split
 ·rw[xf];have:=zeu 18 (-n).toNat;have e:(⟨#[45]⟩:ByteArray).size=1:=rfl;omega
 ·have:=zeu 18 n.toNat;omega
theorem znq {lo hi:Int}{s d:ByteArray}{a k:Nat}(h:zbe lo hi s a=some (d,k)):a<k/\k<=s.size/\d.size<=20*(k-a):=by
 unfold zbe at h;split at h
 ·cases h
 ·rename_i u e hu;have:=zso hu;split at h
  ·cases h
  ·simp only[xg,xh]at h;obtain⟨rfl,rfl⟩:=h;have:=zj2 (zdb u);omega
theorem zmq (s:ByteArray):∀ m k,allS s m k=true->m=0\/k+m<=s.size
 |0,k,_=>.inl rfl
 |m+1,k,h=>by
  right;rw[allS,Bool.and_eq_true]at h;have h1:=zkl h.1;rcases zmq s m (k+1) h.2 with h2|h2<;>omega
theorem zcf:quo.size=1:=rfl
theorem zv2 {s d:ByteArray}{a k:Nat}(h:zca s a=some (d,k)):a<k/\k<=s.size/\d.size<=20*(k-a):=by
 unfold zca at h;split at h
 ·cases h
 ·rename_i hc;split at h
  ·rename_i hl;simp only[xg,xh]at h;obtain⟨rfl,rfl⟩:=h;have ha:a<s.size:=zaw (by omega);have:=zmq s _ _ hl;have hb:a+1+(bAt s a).toNat<=s.size:=by omega
   rw[xf,xf,zcf,size_extract s (a+1) _ (by omega) hb];omega
  ·cases h
theorem zvx {l s d:ByteArray}{a k:Nat}(h:zcv l s a=some (d,k)):a<k/\k<=s.size/\d.size<=20*(k-a):=by
 unfold zcv at h;split at h
 ·cases h
 ·simp only[xg,xh]at h;obtain⟨rfl,rfl⟩:=h;have ha:a<s.size:=zaw (by omega);rw[zak];omega
theorem zbv (c:UInt8):(⟨#[c]⟩:ByteArray).size=1:=rfl
theorem zno {C T:Nat}{f:Nat->Option (ByteArray×Nat)}(hf:Bd C T f):∀ (m k fr:Nat) (t x:ByteArray) (e:Nat),fr<=T->zb0 f m k fr t=some (x,e)->fr<=e/\e<=T/\x.size<=t.size+1+(C+1)*(e-fr)
 |0,k,fr,t,x,e,hT,h=>by
  simp only[zb0,xg,xh]at h;obtain⟨rfl,rfl⟩:=h;rw[xf,zbv];omega
 |m+1,k,fr,t,x,e,hT,h=>by
  rw[zb0]at h;split at h
  ·cases h
  ·rename_i y nx hy;have hb:=hf _ _ _ hy;have ih:=zno hf m (k+1) nx _ x e hb.2.1 h;have hs:((if 0<k then t++⟨#[44]⟩ else t)++y).size<=t.size+1+y.size:=by
    rw[xf];split
    ·rw[xf,zbv];omega
    ·omega
   have e1:=zdo (C:=C+1) (show fr<=nx by omega) (show nx<=e by omega);have e2:(C+1)*(nx-fr)=C*(nx-fr)+(nx-fr):=by rw[xp,xz]
   omega
theorem zvz {C:Nat}{s:ByteArray}{f:Nat->Option (ByteArray×Nat)}(hf:Bd C s.size f):Bd (C+2) s.size (zdl f s):=by
 intro a d k h;unfold zdl at h;split at h
 ·cases h
 ·have ha:a<s.size:=zaw (by omega);have:=zno hf _ 0 (a+1) _ d k (by omega) h;rw[zbv]at this;have e1:=zdo (C:=C+1) (show a<=a+1 by omega) (show a+1<=k by omega);have e2:(C+2)*(k-a)=(C+1)*(k-a)+(k-a):=by rw[show C+2=(C+1)+1 by omega,xp,xz]
  have e3:(C+1)*(a+1-a)=C+1:=by rw[show a+1-a=1 by omega,Nat.mul_one]
  omega
theorem zv0 {C:Nat}{s:ByteArray}{f:Nat->Option (ByteArray×Nat)}(hC:1<=C)(hf:Bd C s.size f):Bd C s.size (zb9 f s):=by
 intro a d k h;unfold zb9 at h;split at h
 ·simp only[xg,xh]at h;obtain⟨rfl,rfl⟩:=h;have ha:a<s.size:=zaw (by omega);rw[zbv,show a+1-a=1 by omega];omega
 ·split at h
  ·have:=hf _ _ _ h;have e:=zfj (C:=C) (show k-(a+1)<=k-a by omega);omega
  ·cases h
theorem znl {C T:Nat}{f:Ty->Nat->Option (ByteArray×Nat)}(hf:∀ ty,Bd C T (f ty)):∀ (fs:List (Nat×Ty×ByteArray)) (mk:ByteArray) (fr:Nat) (t x:ByteArray) (e:Nat),mk.size=1->fr<=T->zbp f fs mk fr t=some (x,e)->fr+(if fs=[] then 0 else 1)<=e/\e<=T/\x.size<=t.size+1+(C+3)*(e-fr)
 |[],mk,fr,t,x,e,hm,hT,h=>by
  simp only[zbp,xg,xh]at h;obtain⟨rfl,rfl⟩:=h;rw[xf,zbv];simp;omega
 |g::fs,mk,fr,t,x,e,hm,hT,h=>by
  rw[zbp]at h;split at h
  ·cases h
  ·rename_i y nx hy;have hb:=hf _ _ _ _ hy;have ih:=znl hf fs _ nx _ x e (zbv 44) hb.2.1 h;simp only[xf,zbv,zak,hm]at ih;have e1:=zdo (C:=C+3) (show fr<=nx by omega) (show nx<=e by split at ih<;>omega);have e2:(C+3)*(nx-fr)=C*(nx-fr)+3*(nx-fr):=by rw[xp]
   simp;split at ih<;>omega
theorem znt (s:ByteArray):∀ (n:Nat) (ty:Ty),Bd (4*n+20) s.size (dec s n ty)
 |0,ty=>by intro a d k h;simp[dec]at h
 |n+1,ty=>by
  have ih:=znt s n;intro a d k h;rw[dec]at h;have up:∀ {d:ByteArray} {k:Nat},a<k/\k<=s.size/\d.size<=20*(k-a)->a<k/\k<=s.size/\d.size<=(4*(n+1)+20)*(k-a):=by
   rintro d k ⟨h1,h2,h3⟩;have:=xm (k-a) (show 20<=4*(n+1)+20 by omega);omega
  split at h
  ·exact up (znq h)
  ·split at h
   ·exact up (znq h)
   ·split at h
    ·exact up (zv2 h)
    ·split at h
     ·exact up (zvx h)
     ·split at h
      ·exact(zvz (ih ty.in)).mono (by omega) _ _ _ h
      ·split at h
       ·exact(zv0 (by omega) (ih ty.in)).mono (by omega) _ _ _ h
       ·split at h
        ·rename_i hc;have ha:a<=s.size:=by
          rcases hfs:ty.fields with _|⟨g,fs⟩
          ·exact absurd hfs hc.2
          ·rw[hfs,zbp]at h;split at h
           ·cases h
           ·rename_i y nx hy;have:=ih _ _ _ _ hy;omega
         have:=znl ih ty.fields _ a _ d k (zbv 123) ha h;rw[if_neg hc.2]at this;have e0:ByteArray.empty.size=0:=rfl;have e2:(4*(n+1)+20)*(k-a)=(4*n+20+3)*(k-a)+(k-a):=by rw[show 4*(n+1)+20=(4*n+20+3)+1 by omega,xp,xz]
         omega
        ·cases h
theorem znu {s d:ByteArray}{n a k:Nat}{ty:Ty}(h:dec s n ty a=some (d,k)):a<k/\k<=s.size/\d.size<=(4*n+20)*(k-a):=znt s n ty a d k h
section
def uRet (a:Nat):Option (Nat×Nat)->Value
 |some (u,e)=>.tuple #[.int .i64 u,.int .i64 e,.bool true]
 |none=>.tuple #[.int .i64 0,.int .i64 a,.bool false]
set_option maxRecDepth 10000 in
theorem zsu (s:ByteArray)(a:Nat)(w:World)(_hs:s.size<=9000000)(ha:a<=s.size) :
  Calls Tryz.prog 292 #[.string s,.int .i64 a] w fun e w'=>e=.returned (uRet a (uAt s a))/\w'=w:=by
 obtain⟨R,hR⟩:∃ R,R=uAt s a:=⟨_,rfl⟩;rw[<- hR];have HR:Hid (R=uAtL s a 8 0 0 1):=hR;clear hR
 go_enter Tryz.func292,Tryz.ntmps292
 go_wp2_with fail
 go_loop [7,8,9] (fun vu vx vk=>∃ (m k u x:Nat),k+m=8/\vk=.int .i64 k/\vu=.int .i64 u/\vx=.int .i64 x/\u<x/\1<=x/\x<=72057594037927936/\Hid (x*128 ^ m=72057594037927936)/\Hid (R=uAtL s a m k u x)) (fun _ _ k=>8-(intOf k).toNat)
 case atStart=>exact⟨8,0,0,1,rfl,rfl,rfl,rfl,by omega,by omega,by omega,by show 1*128 ^ 8=_;omega,HR⟩
 case round =>
  obtain⟨m,k,u,x,hkm,rfl,rfl,rfl,hux,hx1,hx2,hxm,hR⟩:=hrel;cases m with
  |zero =>
   have hk8:¬ (k:Int)<8:=by omega
   have hr:Hid (R=none):=hR
   go_wp2_with fail
   go_ret3
   rw[hr.out];exact⟨rfl,rfl⟩
  |succ m =>
   have hk8:(k:Int)<8:=by omega
   have hx3:x<=562949953421312:=by
    have:=hxm.out;rw[xv]at this;have hp:1<=128 ^ m:=Nat.pow_pos (by omega);have h2:x*128<=x*(128 ^ m*128):=qd x (by omega);omega
   have hhi:=zeq s (a+k);obtain⟨b,hb⟩:∃ b,b=bAt s (a+k):=⟨_,rfl⟩;have hby:∀ w,Calls Tryz.prog 245 #[.string s,.int .i64 ((a:Int)+(k:Int))] w fun e w'=>e=.returned (.int .i64 b)/\w=w':=fun w=>by
    rw[hb];exact(zba s (a+k) w _hs).mono (fun _ _ ⟨h1,h2⟩=>⟨h1,h2.symm⟩)
   rw[<- hb]at hhi;by_cases h0:b<0
   ·have hr:Hid (R=none):=by show _=_;rw[hR.out,uAtL,<- hb,if_pos (.inl h0)]
    clear hb
    go_wp2_with (go_at_call 245;refine(hby _).mono ?_;rintro e _ ⟨rfl,rfl⟩)
    go_ret3
    rw[hr.out];exact⟨rfl,rfl⟩
   ·by_cases hz:b=0/\0<k
    ·have hr:Hid (R=none):=by show _=_;rw[hR.out,uAtL,<- hb,if_pos (.inr hz)]
     have hz1:(b == 0)=true:=by simp[hz.1]
     have hz2:(0:Int)<(k:Int):=by omega
     clear hb hz
     go_wp2_with (go_at_call 245;refine(hby _).mono ?_;rintro e _ ⟨rfl,rfl⟩)
     go_ret3
     rw[hr.out];exact⟨rfl,rfl⟩
    ·have hR2:Hid (R=if b<128 then some (u+b.toNat * x,a+k+1) else uAtL s a m (k+1) (u+(b.toNat-128)*x) (x*128)):=by
      show _=_;rw[hR.out,uAtL,<- hb,if_neg (by omega)]
     have hbx:0<=b*(x:Int)/\b*(x:Int)<=255*(x:Int):=⟨Int.mul_nonneg (by omega) (by omega),xo hhi (by omega)⟩;obtain⟨hbx1,hbx2⟩:=hbx;clear hR hb;have hsp:((b == 0)=false)\/((b == 0)=true/\¬ (0:Int)<(k:Int)):=by
      by_cases e:b=0
      ·right;exact⟨by simp[e],by omega⟩
      ·left;simpa using e
     clear hz;by_cases h128:b<128
     ·have hr:Hid (R=some (u+b.toNat * x,a+k+1)):=by show _=_;rw[hR2.out,if_pos h128]
      clear hR2;rcases hsp with hsp|⟨hsp,hsp2⟩
      all_goals
       go_wp2_with (go_at_call 245;refine(hby _).mono ?_;rintro e _ ⟨rfl,rfl⟩)
       go_ret3
       rw[hr.out];refine⟨ret3 (zdc ?_) (zdc ?_) rfl,rfl⟩
       ·rw[qh,xy,show ((b.toNat:Nat):Int)=b by omega]
       ·omega
     ·have hr:Hid (R=uAtL s a m (k+1) (u+(b.toNat-128)*x) (x*128)):=by show _=_;rw[hR2.out,if_neg h128]
      clear hR2;have hcx:0<=(b-128)*(x:Int)/\(b-128)*(x:Int)<=127*(x:Int):=⟨Int.mul_nonneg (by omega) (by omega),xo (by omega) (by omega)⟩;obtain⟨hcx1,hcx2⟩:=hcx;have hnat:(b.toNat-128)*x<=127*x:=xm x (by omega);rcases hsp with hsp|⟨hsp,hsp2⟩
      all_goals
       go_wp2_with (go_at_call 245;refine(hby _).mono ?_;rintro e _ ⟨rfl,rfl⟩)
       go_round
       case rel =>
        refine⟨m,k+1,u+(b.toNat-128)*x,x*128,by omega,by go_num,zdc ?_,zdc ?_,by omega,by omega,by omega,?_,hr⟩
        ·rw[qh,xy,show ((b.toNat-128:Nat):Int)=b-128 by omega]
        ·rw[xy];rfl
        ·show _=_;have:=hxm.out;rw[xv,qk (128 ^ m)]at this;rw[qj];exact this
       case measure=>simp[intOf];omega
end
section
def zch (Tab:World->Prop):Prop:=(∀ w w',Below w.heap.size w w'->Tab w->Tab w')/\∀ (n:Int) (w:World),-1000000000000000<=n->n<=1000000000000000->Tab w ->
 Calls Tryz.prog 293 #[.int .i64 n,.int .i64 10] w fun e w'=>e=.returned (.string (decI n))/\Below w.heap.size w w'
theorem yaep {s:ByteArray}{a:Nat}(h:uAt s a=none)(w:World)(hs:s.size<=9000000)(ha:a<=s.size) :
  Calls Tryz.prog 292 #[.string s,.int .i64 a] w fun e w'=>e=.returned (.tuple #[.int .i64 0,.int .i64 a,.bool false])/\w=w':=by
 have:=zsu s a w hs ha;rw[h]at this;exact this.mono (fun _ _ ⟨h1,h2⟩=>⟨h1,h2.symm⟩)
theorem yaeq {s:ByteArray}{a u k:Nat}(h:uAt s a=some (u,k))(w:World)(hs:s.size<=9000000)(ha:a<=s.size) :
  Calls Tryz.prog 292 #[.string s,.int .i64 a] w fun e w'=>e=.returned (.tuple #[.int .i64 u,.int .i64 k,.bool true])/\w=w':=by
 have:=zsu s a w hs ha;rw[h]at this;exact this.mono (fun _ _ ⟨h1,h2⟩=>⟨h1,h2.symm⟩)
theorem zhx {Tab:World->Prop}(F:zch Tab)(lo hi:Int)(s:ByteArray)(a:Nat)(w:World)(_hs:s.size<=9000000)(ha:a<=s.size)(hl0:-1000000000000000<=lo)(hh0:hi<=1000000000000000)(hT:Tab w) :
  Calls Tryz.prog 239 #[.int .i64 lo,.int .i64 hi,.string s,.int .i64 a] w fun e w'=>e=.returned (zbk a (zbe lo hi s a))/\Below w.heap.size w w':=by
 cases hx:uAt s a with
 |none =>
  have hr:Hid (zbe lo hi s a=none):=by show _=_;unfold zbe;rw[hx]
  have hcall:=fun w=>yaep hx w _hs ha;clear hx F hT
  go_enter Tryz.func239,Tryz.ntmps239
  go_wp2_with (go_at_call 292;refine(hcall _).mono ?_;rintro e _ ⟨rfl,rfl⟩)
  go_ret3
  rw[hr.out];exact⟨rfl,Below.refl _ _⟩
 |some p =>
  obtain⟨u,k⟩:=p;obtain⟨hu,hk1,hk2⟩:=zso hx;have hcall:=fun w=>yaeq hx w _hs ha;have hP:zbe lo hi s a=if zdb u<lo\/hi<zdb u then none else some (decI (zdb u),k):=by unfold zbe;rw[hx]
  obtain⟨v,hv⟩:∃ v,v=zdb u:=⟨_,rfl⟩;rw[<- hv]at hP;clear hx;by_cases hodd:u % 2=1
  ·have ho':((u:Int) % 2 == 1)=true:=by simp;omega
   have hv2:Hid (-((u:Int) / 2)-1=v):=by show _=_;rw[hv];unfold zdb;rw[if_pos hodd];omega
   have hform:=fun w=>F.2 v w;rw[<- hv2.out]at hform;clear hv hodd;by_cases hlo:-((u:Int) / 2)-1<lo
   ·have hr:Hid (zbe lo hi s a=none):=by show _=_;rw[hP,if_pos (.inl (by rw[<- hv2.out];exact hlo))]
    clear hP hform F hT
    go_enter Tryz.func239,Tryz.ntmps239
    go_wp2_with (go_at_call 292;refine(hcall _).mono ?_;rintro e _ ⟨rfl,rfl⟩)
    go_ret3
    rw[hr.out];exact⟨rfl,Below.refl _ _⟩
   ·by_cases hhi:hi < -((u:Int) / 2)-1
    ·have hr:Hid (zbe lo hi s a=none):=by show _=_;rw[hP,if_pos (.inr (by rw[<- hv2.out];exact hhi))]
     clear hP hform F hT
     go_enter Tryz.func239,Tryz.ntmps239
     go_wp2_with (go_at_call 292;refine(hcall _).mono ?_;rintro e _ ⟨rfl,rfl⟩)
     go_ret3
     rw[hr.out];exact⟨rfl,Below.refl _ _⟩
    ·have hr:Hid (zbe lo hi s a=some (decI (-((u:Int) / 2)-1),k)):=by show _=_;rw[hP,if_neg (by rw[<- hv2.out];omega),hv2.out]
     have hfc:=fun w=>hform w (by omega) (by omega);clear hP hform F
     go_enter Tryz.func239,Tryz.ntmps239
     go_wp2_with (first|(go_at_call 292;refine(hcall _).mono ?_;rintro e _ ⟨rfl,rfl⟩)|(go_at_call 293;refine(hfc _ hT).mono ?_;rintro e w1 ⟨rfl,hb1⟩))
     go_ret3
     rw[hr.out];exact⟨rfl,hb1⟩
  ·have ho':((u:Int) % 2 == 1)=false:=by rw[beq_eq_false_iff_ne];omega
   have hv2:Hid ((u:Int) / 2=v):=by show _=_;rw[hv];unfold zdb;rw[if_neg hodd];omega
   have hform:=fun w=>F.2 v w;rw[<- hv2.out]at hform;clear hv hodd;by_cases hlo:(u:Int) / 2<lo
   ·have hr:Hid (zbe lo hi s a=none):=by show _=_;rw[hP,if_pos (.inl (by rw[<- hv2.out];exact hlo))]
    clear hP hform F hT
    go_enter Tryz.func239,Tryz.ntmps239
    go_wp2_with (go_at_call 292;refine(hcall _).mono ?_;rintro e _ ⟨rfl,rfl⟩)
    go_ret3
    rw[hr.out];exact⟨rfl,Below.refl _ _⟩
   ·by_cases hhi:hi<(u:Int) / 2
    ·have hr:Hid (zbe lo hi s a=none):=by show _=_;rw[hP,if_pos (.inr (by rw[<- hv2.out];exact hhi))]
     clear hP hform F hT
     go_enter Tryz.func239,Tryz.ntmps239
     go_wp2_with (go_at_call 292;refine(hcall _).mono ?_;rintro e _ ⟨rfl,rfl⟩)
     go_ret3
     rw[hr.out];exact⟨rfl,Below.refl _ _⟩
    ·have hr:Hid (zbe lo hi s a=some (decI ((u:Int) / 2),k)):=by show _=_;rw[hP,if_neg (by rw[<- hv2.out];omega),hv2.out]
     have hfc:=fun w=>hform w (by omega) (by omega);clear hP hform F
     go_enter Tryz.func239,Tryz.ntmps239
     go_wp2_with (first|(go_at_call 292;refine(hcall _).mono ?_;rintro e _ ⟨rfl,rfl⟩)|(go_at_call 293;refine(hfc _ hT).mono ?_;rintro e w1 ⟨rfl,hb1⟩))
     go_ret3
     rw[hr.out];exact⟨rfl,hb1⟩
theorem znz (s:ByteArray)(a:Nat)(w:World)(_hs:s.size<=9000000)(ha:a<=s.size) :
  Calls Tryz.prog 240 #[.string s,.int .i64 a] w fun e w'=>e=.returned (zbk a (zca s a))/\w'=w:=by
 have hlo:=zhm s a;obtain⟨b,hb⟩:∃ b,b=bAt s a:=⟨_,rfl⟩;have hby:∀ w,Calls Tryz.prog 245 #[.string s,.int .i64 a] w fun e w'=>e=.returned (.int .i64 b)/\w=w':=fun w=>by
  rw[hb];exact(zba s a w _hs).mono (fun _ _ ⟨h1,h2⟩=>⟨h1,h2.symm⟩)
 have hP:zca s a=if b<0\/60<b then none else if allS s b.toNat (a+1)=true then some (quo++s.extract (a+1) (a+1+b.toNat)++quo,a+1+b.toNat) else none:=by rw[hb];rfl
 rw[<- hb]at hlo;by_cases h0:b<0
 ·have hr:Hid (zca s a=none):=by show _=_;rw[hP,if_pos (.inl h0)]
  clear hP hb
  go_enter Tryz.func240,Tryz.ntmps240
  go_wp2_with (go_at_call 245;refine(hby _).mono ?_;rintro e _ ⟨rfl,rfl⟩)
  go_ret3
  rw[hr.out];exact⟨rfl,rfl⟩
 ·by_cases h60:60<b
  ·have hr:Hid (zca s a=none):=by show _=_;rw[hP,if_pos (.inr h60)]
   clear hP hb
   go_enter Tryz.func240,Tryz.ntmps240
   go_wp2_with (go_at_call 245;refine(hby _).mono ?_;rintro e _ ⟨rfl,rfl⟩)
   go_ret3
   rw[hr.out];exact⟨rfl,rfl⟩
  ·obtain⟨L,rfl⟩:∃ L:Nat,b=L:=⟨b.toNat,by omega⟩;rw[if_neg (by omega)]at hP;simp only[qf]at hP;have hal:a<s.size:=zaw (by omega);obtain⟨R,hR⟩:∃ R,R=allS s L (a+1):=⟨_,rfl⟩;rw[<- hR]at hP;have HP:Hid (zca s a=if R=true then some (quo++s.extract (a+1) (a+1+L)++quo,a+1+L) else none):=hP;have HR:Hid (R=allS s L (a+1)):=hR;clear hP hR hb
   go_enter Tryz.func240,Tryz.ntmps240
   go_wp2_with (go_at_call 245;refine(hby _).mono ?_;rintro e _ ⟨rfl,rfl⟩)
   clear hby
   go_loop [10] (fun v=>∃ k:Nat,a+1<=k/\k<=a+1+L/\k<=s.size/\v=.int .i64 k/\Hid (R=allS s (a+1+L-k) k)) (fun v=>a+1+L-(intOf v).toNat)
   case atStart=>exact⟨a+1,xj _,by omega,by omega,by go_num,by rw[show a+1+L-(a+1)=L by omega];exact HR⟩
   case round =>
    obtain⟨k,hk1,hk2,hks,rfl,hp⟩:=hrel;by_cases hlt:k<a+1+L
    ·have hlt':(k:Int)<(a:Int)+1+(L:Int):=by omega
     have hstep:Hid (R=(inS (bAt s k)&&allS s (a+1+L-(k+1)) (k+1))):=by
      show _=_;rw[hp.out,show a+1+L-k=(a+1+L-(k+1))+1 by omega];rfl
     cases hd:inS (bAt s k) with
     |true =>
      have hkl:=zkl hd;have hp2:Hid (R=allS s (a+1+L-(k+1)) (k+1)):=by show _=_;rw[hstep.out,hd];rfl
      go_wp2_with (first|(go_at_call 245;refine(zan _ _ _ (by omega) _hs).mono ?_;rintro e w' ⟨rfl,rfl⟩)|(go_at_call 294;refine(zfg _ _).mono ?_;rintro e w' ⟨rfl,rfl⟩))
      go_round
      case rel=>exact⟨k+1,by omega,by omega,by omega,by go_num,hp2⟩
      case measure=>simp[intOf];omega
     |false =>
      have hr:Hid (zca s a=none):=by show _=_;rw[HP.out,hstep.out,hd];rfl
      clear hstep HP
      go_wp2_with (first|(go_at_call 245;refine(zan _ _ _ (by omega) _hs).mono ?_;rintro e w' ⟨rfl,rfl⟩)|(go_at_call 294;refine(zfg _ _).mono ?_;rintro e w' ⟨rfl,rfl⟩))
      go_ret3
      rw[hr.out];exact⟨rfl,rfl⟩
    ·have hlt':¬ (k:Int)<(a:Int)+1+(L:Int):=by omega
     have hRt:R=true:=by rw[hp.out,show a+1+L-k=0 by omega];rfl
     have hr:Hid (zca s a=some (quo++s.extract (a+1) (a+1+L)++quo,a+1+L)):=by show _=_;rw[HP.out,if_pos hRt]
     have hsx:=size_extract s (a+1) (a+1+L) (by omega) (by omega);have hq1:(⟨#[34]⟩:ByteArray).size=1:=rfl;have hsy:((⟨#[34]⟩:ByteArray)++s.extract (a+1) (a+1+L)).size=1+L:=by rw[xf,hq1,hsx];omega
     clear HP hRt hp
     go_wp2_with (go_at_call 247;refine(zr0 s _ _ _ (by omega) (by omega) (by omega) _hs).mono ?_;rintro e w' ⟨rfl,rfl⟩)
     go_ret3
     rw[hr.out];refine⟨ret3 (zsw ?_) (zdc ?_) rfl,rfl⟩
     ·rfl
     ·omega
theorem zu4 (s:ByteArray)(w:World)(_hs:s.size<=9000000) :
  Calls Tryz.prog 245 #[.string s,.int .i64 (-1)] w fun e w'=>e=.returned (.int .i64 (-1))/\w=w':=by
 go_enter Tryz.func245,Tryz.ntmps245
 go_wp2
 go_ret;exact⟨rfl,rfl⟩
theorem znv (l s:ByteArray)(a:Nat)(w:World)(_hs:s.size<=9000000)(hl:l.size<=8)(ha:a<=s.size) :
  Calls Tryz.prog 241 #[.string l,.string s,.int .i64 a] w fun e w'=>e=.returned (zbk a (zcv l s a))/\Below w.heap.size w w':=by
 have hlo:=zhm s a;obtain⟨b,hb⟩:∃ b,b=bAt s a:=⟨_,rfl⟩;have hby:∀ w,Calls Tryz.prog 245 #[.string s,.int .i64 a] w fun e w'=>e=.returned (.int .i64 b)/\w=w':=fun w=>by
  rw[hb];exact(zba s a w _hs).mono (fun _ _ ⟨h1,h2⟩=>⟨h1,h2.symm⟩)
 have hP:zcv l s a=if b<0\/bAt l b.toNat<0 then none else some (oneB (bAt l b.toNat).toNat,a+1):=by rw[hb];rfl
 rw[<- hb]at hlo;clear hb;obtain⟨c,hc⟩:∃ c,c=(if b<0 then -1 else bAt l b.toNat):=⟨_,rfl⟩;have hcc:=zeq l b.toNat;have hcl:=zhm l b.toNat;have hby2:∀ w,Calls Tryz.prog 245 #[.string l,.int .i64 b] w fun e w'=>e=.returned (.int .i64 c)/\w=w':=fun w=>by
  by_cases h0:b<0
  ·rw[hc,if_pos h0,show b=-1 by omega];exact zu4 l w (by omega)
  ·rw[hc,if_neg h0];exact(zan l b w (by omega) (by omega)).mono (fun _ _ ⟨h1,h2⟩=>⟨h1,h2.symm⟩)
 have hc255:c<=255:=by rw[hc];split<;>omega
 have hP2:zcv l s a=if c<0 then none else some (oneB c.toNat,a+1):=by
  rw[hP,hc];by_cases h0:b<0
  ·rw[if_pos (.inl h0),if_pos h0,if_pos (by omega)]
  ·rw[if_neg h0];by_cases h1:bAt l b.toNat<0
   ·rw[if_pos (.inr h1),if_pos h1]
   ·rw[if_neg (by omega),if_neg h1]
 clear hP hc hcc hcl;by_cases hc0:c<0
 ·have hr:Hid (zcv l s a=none):=by show _=_;rw[hP2,if_pos hc0]
  clear hP2;have tok1:True:=trivial
  go_enter Tryz.func241,Tryz.ntmps241
  go_wp2_with (first|(go_at_call 245;have _t:=tok1;refine(hby _).mono ?_;rintro e _ ⟨rfl,rfl⟩;clear tok1)|(go_at_call 245;refine(hby2 _).mono ?_;rintro e _ ⟨rfl,rfl⟩))
  go_ret3
  rw[hr.out];exact⟨rfl,Below.refl _ _⟩
 ·have hr:Hid (zcv l s a=some (oneB c.toNat,a+1)):=by show _=_;rw[hP2,if_neg hc0]
  clear hP2;have tok1:True:=trivial
  go_enter Tryz.func241,Tryz.ntmps241
  go_wp2_with (first|(go_at_call 245;have _t:=tok1;refine(hby _).mono ?_;rintro e _ ⟨rfl,rfl⟩;clear tok1)|(go_at_call 245;refine(hby2 _).mono ?_;rintro e _ ⟨rfl,rfl⟩)|(go_at_call 251;refine(zel _ _ (by omega) (by omega)).mono ?_;rintro e w1 ⟨rfl,hb1⟩))
  go_ret3
  rw[hr.out];exact⟨rfl,hb1⟩
end
section
def okT:Nat->Ty->Prop
 |0,_=>True
 |n+1,ty=>(∀ t∈ty.inner,okT n t)/\∀ f∈ty.fields,f.1<256/\okT n f.2.1
def DecAtOK (Tab:World->Prop)(n:Nat)(s:ByteArray):Prop:=∀ (ty:Ty) (a:Nat) (w:World) (ai af:Option Addr) (li ci lf cf:Nat),a<=s.size->Tab w->okT n ty->Rep n w ai li ci af lf cf ty ->
 Calls Tryz.prog 192 #[.agg #[.int .i64 ty.kind,.string ty.letters,.bool ty.op,.slice ai li ci,.slice af lf cf],.string s,.int .i64 a] w fun e w'=>e=.returned (zbk a (dec s n ty a))/\Below w.heap.size w w'
theorem DecAtOK.no {Tab:World->Prop}{n:Nat}{s:ByteArray}(IH:DecAtOK Tab n s){ty:Ty}{a:Nat}{w:World}{ai af:Option Addr}{li ci lf cf:Nat}(hj:a<=s.size)(hT:Tab w)(hok:okT n ty)(hr:Rep n w ai li ci af lf cf ty)(hx:dec s n ty a=none) :
 Calls Tryz.prog 192 #[.agg #[.int .i64 ty.kind,.string ty.letters,.bool ty.op,.slice ai li ci,.slice af lf cf],.string s,.int .i64 a] w fun e w'=>e=.returned (.tuple #[.string xe,.int .i64 a,.bool false])/\Below w.heap.size w w':=by
 have:=IH ty a w ai af li ci lf cf hj hT hok hr;rw[hx]at this;exact this
theorem DecAtOK.yes {Tab:World->Prop}{n:Nat}{s:ByteArray}(IH:DecAtOK Tab n s){ty:Ty}{a:Nat}{w:World}{ai af:Option Addr}{li ci lf cf:Nat}(hj:a<=s.size)(hT:Tab w)(hok:okT n ty)(hr:Rep n w ai li ci af lf cf ty){d:ByteArray}{k:Nat}(hx:dec s n ty a=some (d,k)) :
 Calls Tryz.prog 192 #[.agg #[.int .i64 ty.kind,.string ty.letters,.bool ty.op,.slice ai li ci,.slice af lf cf],.string s,.int .i64 a] w fun e w'=>e=.returned (.tuple #[.string d,.int .i64 k,.bool true])/\Below w.heap.size w w':=by
 have:=IH ty a w ai af li ci lf cf hj hT hok hr;rw[hx]at this;exact this
theorem ziv {n a b c:Nat}{d:ByteArray}(h:d.size<=(4*n+c)*(b-a))(hc:c<=30)(hn:n<=100)(hb:b<=4096):d.size<=4000000:=by
 have h1:(4*n+c)*(b-a)<=430*(b-a):=xm _ (by omega);omega
theorem znx {Tab:World->Prop}(F:zch Tab){n:Nat}{s:ByteArray}(IH:DecAtOK Tab n s)(hs:s.size<=4096)(hn:n<=100)(ty:Ty)(a:Nat)(w:World)(ai af:Option Addr)(li ci lf cf:Nat)(ha:a<=s.size)(hT:Tab w)(hok:okT n ty)(hr:Rep n w ai li ci af lf cf ty) :
  Calls Tryz.prog 243 #[.agg #[.int .i64 ty.kind,.string ty.letters,.bool ty.op,.slice ai li ci,.slice af lf cf],.string s,.int .i64 a] w fun e w'=>e=.returned (zbk a (zb9 (dec s n ty) s a))/\Below w.heap.size w w':=by
 have _hs:s.size<=9000000:=by omega
 have hB:∀ o,Below w.heap.size w (w.alloc o):=fun o=>(Below.refl _ _).alloc (xj _) _;by_cases hm:bAt s a=0
 ·have hm':(bAt s a == 0)=true:=by simp[hm]
  have hr':Hid (zb9 (dec s n ty) s a=some (⟨#[95]⟩,a+1)):=by show _=_;unfold zb9;rw[if_pos hm]
  clear hm
  go_enter Tryz.func243,Tryz.ntmps243
  go_wp2_with (go_at_call 245;refine(zan _ _ _ (by omega) _hs).mono ?_;rintro e w' ⟨rfl,rfl⟩)
  go_ret3
  rw[hr'.out];exact⟨rfl,hB _⟩
 ·have hm':(bAt s a == 0)=false:=by simpa using hm
  by_cases h1:bAt s a=1
  ·have h1':(bAt s a != 1)=false:=by simp[h1]
   have hal:a<s.size:=zaw (by omega);cases hx:dec s n ty (a+1) with
   |none =>
    have hr':Hid (zb9 (dec s n ty) s a=none):=by show _=_;unfold zb9;rw[if_neg hm,if_pos h1,hx]
    have hd:=fun o=>IH.no (show a+1<=s.size by omega) (F.1 _ _ (hB o) hT) hok (hr.keep (hB o)) hx;clear hm hx h1
    go_enter Tryz.func243,Tryz.ntmps243
    go_wp2_with (first|(go_at_call 245;refine(zan _ _ _ (by omega) _hs).mono ?_;rintro e w' ⟨rfl,rfl⟩)|(go_at_call 192;refine(hd _).mono ?_;rintro e w' ⟨rfl,hbw⟩))
    go_ret3
    rw[hr'.out];exact⟨rfl,(hB _).trans (hbw.mono (by simp))⟩
   |some p =>
    obtain⟨d,k⟩:=p;have hr':Hid (zb9 (dec s n ty) s a=some (d,k)):=by show _=_;unfold zb9;rw[if_neg hm,if_pos h1,hx]
    have hd:=fun o=>IH.yes (show a+1<=s.size by omega) (F.1 _ _ (hB o) hT) hok (hr.keep (hB o)) hx;clear hm hx h1
    go_enter Tryz.func243,Tryz.ntmps243
    go_wp2_with (first|(go_at_call 245;refine(zan _ _ _ (by omega) _hs).mono ?_;rintro e w' ⟨rfl,rfl⟩)|(go_at_call 192;refine(hd _).mono ?_;rintro e w' ⟨rfl,hbw⟩))
    go_ret3
    rw[hr'.out];exact⟨rfl,(hB _).trans (hbw.mono (by simp))⟩
  ·have h1':(bAt s a != 1)=true:=by simpa using h1
   have hr':Hid (zb9 (dec s n ty) s a=none):=by show _=_;unfold zb9;rw[if_neg hm,if_neg h1]
   clear hm h1
   go_enter Tryz.func243,Tryz.ntmps243
   go_wp2_with (go_at_call 245;refine(zan _ _ _ (by omega) _hs).mono ?_;rintro e w' ⟨rfl,rfl⟩)
   go_ret3
   rw[hr'.out];exact⟨rfl,hB _⟩
theorem znw {Tab:World->Prop}(F:zch Tab){n:Nat}{s:ByteArray}(IH:DecAtOK Tab n s)(hs:s.size<=4096)(hn:n<=100)(ty:Ty)(a:Nat)(w:World)(ai af:Option Addr)(li ci lf cf:Nat)(ha:a<=s.size)(hT:Tab w)(hok:okT n ty)(hr:Rep n w ai li ci af lf cf ty) :
  Calls Tryz.prog 242 #[.agg #[.int .i64 ty.kind,.string ty.letters,.bool ty.op,.slice ai li ci,.slice af lf cf],.string s,.int .i64 a] w fun e w'=>e=.returned (zbk a (zdl (dec s n ty) s a))/\Below w.heap.size w w':=by
 have _hs:s.size<=9000000:=by omega
 have hB:∀ o,Below w.heap.size w (w.alloc o):=fun o=>(Below.refl _ _).alloc (xj _) _;have hlo:=zhm s a;obtain⟨b,hb⟩:∃ b,b=bAt s a:=⟨_,rfl⟩;have hby:∀ w,Calls Tryz.prog 245 #[.string s,.int .i64 a] w fun e w'=>e=.returned (.int .i64 b)/\w=w':=fun w=>by
  rw[hb];exact(zba s a w _hs).mono (fun _ _ ⟨h1,h2⟩=>⟨h1,h2.symm⟩)
 have hP:zdl (dec s n ty) s a=if b<0\/16<b then none else zb0 (dec s n ty) b.toNat 0 (a+1) ⟨#[91]⟩:=by rw[hb];rfl
 rw[<- hb]at hlo;by_cases h0:b<0
 ·have hr':Hid (zdl (dec s n ty) s a=none):=by show _=_;rw[hP,if_pos (.inl h0)]
  clear hP hb
  go_enter Tryz.func242,Tryz.ntmps242
  go_wp2_with (go_at_call 245;refine(hby _).mono ?_;rintro e _ ⟨rfl,rfl⟩)
  go_ret3
  rw[hr'.out];exact⟨rfl,hB _⟩
 ·by_cases h16:16<b
  ·have hr':Hid (zdl (dec s n ty) s a=none):=by show _=_;rw[hP,if_pos (.inr h16)]
   clear hP hb
   go_enter Tryz.func242,Tryz.ntmps242
   go_wp2_with (go_at_call 245;refine(hby _).mono ?_;rintro e _ ⟨rfl,rfl⟩)
   go_ret3
   rw[hr'.out];exact⟨rfl,hB _⟩
  ·obtain⟨L,rfl⟩:∃ L:Nat,b=L:=⟨b.toNat,by omega⟩;rw[if_neg (by omega)]at hP;simp only[qf]at hP;have hal:a<s.size:=zaw (by omega);obtain⟨R,hR⟩:∃ R,R=zb0 (dec s n ty) L 0 (a+1) ⟨#[91]⟩:=⟨_,rfl⟩;rw[<- hR]at hP;rw[hP];have HR:Hid (R=zb0 (dec s n ty) L 0 (a+1) ⟨#[91]⟩):=hR;have hL16:(L:Int)<=16:=by omega
   clear hP hR hb h16
   go_enter Tryz.func242,Tryz.ntmps242
   go_wp2_with (go_at_call 245;refine(hby _).mono ?_;rintro e _ ⟨rfl,rfl⟩)
   clear hby
   go_loopw [10,11,12] (fun vd vb vc wr=>∃ (m c b:Nat) (d:ByteArray),c+m=L/\a+1<=b/\b<=s.size/\vc=.int .i64 c/\vb=.int .i64 b/\vd=.string d/\Hid (R=zb0 (dec s n ty) m c b d)/\Hid (d.size<=(4*n+21)*(b-a))/\Below (w.heap.size+1) (w.alloc (.cells #[.int .i64 ty.kind,.string ty.letters,.bool ty.op,.slice ai li ci,.slice af lf cf] 201)) wr) (fun _ _ c _=>17-(intOf c).toNat)
   case atStart=>exact⟨L,0,a+1,⟨#[91]⟩,by omega,xj _,hal,rfl,by go_num,rfl,HR,(by show (1:Nat)<=_;rw[show a+1-a=1 by omega];omega),Below.refl _ _⟩
   case round =>
    obtain⟨m,c,b,d,hcm,hjb,hbt,rfl,rfl,rfl,hR,hd,hb⟩:=hrel;obtain⟨hc,hf⟩:=zap hb;have hrw:Rep n wr ai li ci af lf cf ty:=(hr.keep (hB _)).keep (hb.mono (by simp));have hsw:w.heap.size+1<=wr.heap.size:=by have:=hb.size;simpa using this
    have hbw0:Below w.heap.size w wr:=(hB _).trans (hb.mono (by omega));have hTw:Tab wr:=F.1 _ _ hbw0 hT;have hs2:=ziv hd.out (by omega) hn (by omega);have one1:(⟨#[93]⟩:ByteArray).size=1:=rfl;have one2:(⟨#[44]⟩:ByteArray).size=1:=rfl;cases m with
    |zero =>
     have hcL:¬ (c:Int)<(L:Int):=by omega
     have hr':Hid (R=some (d++⟨#[93]⟩,b)):=hR
     go_wp2_with fail
     go_ret3
     rw[hr'.out];exact⟨rfl,hbw0⟩
    |succ m =>
     have hcL:(c:Int)<(L:Int):=by omega
     cases hx:dec s n ty b with
     |none =>
      have hr':Hid (R=none):=by show _=_;rw[hR.out,zb0,hx]
      have hd:=IH.no hbt hTw hok hrw hx;clear hx
      go_wp2_with (go_at_call 192;refine hd.mono ?_;rintro e w' ⟨rfl,hbw⟩)
      go_ret3
      rw[hr'.out];exact⟨rfl,hbw0.trans (hbw.mono (by omega))⟩
     |some p =>
      obtain⟨x,k⟩:=p;obtain⟨hb1,hb2,hb3⟩:=znu hx;have hsum:d.size+1+x.size<=(4*n+21)*(k-a):=by
       have h1:=zdo (C:=4*n+21) (show a<=b by omega) (show b<=k by omega);have h2:(4*n+21)*(k-b)=(4*n+20)*(k-b)+(k-b):=by rw[show 4*n+21=(4*n+20)+1 by omega,xp,xz]
       have:=hd.out;omega
      have hs1:=ziv hb3 (by omega) hn (by omega);have hcall:=IH.yes hbt hTw hok hrw hx;by_cases hc0:c=0
      ·subst hc0;have hr':Hid (R=zb0 (dec s n ty) m (0+1) k (d++x)):=by show _=_;rw[hR.out,zb0,hx];rfl
       have HS:Hid ((d++x).size<=(4*n+21)*(k-a)):=by show _<=_;rw[xf];omega
       clear hb3 hsum hx
       go_wp2_with (go_at_call 192;refine hcall.mono ?_;rintro e w' ⟨rfl,hbw⟩)
       go_roundw
       case rel=>exact⟨m,0+1,k,d++x,by omega,by omega,by omega,by go_num,rfl,rfl,hr',HS,hb.trans (hbw.mono (by omega))⟩
       case measure=>simp[intOf]
      ·have hc0':(0:Int)<(c:Int):=by omega
       have hr':Hid (R=zb0 (dec s n ty) m (c+1) k (d++⟨#[44]⟩++x)):=by show _=_;rw[hR.out,zb0,hx];simp only[if_pos (show 0<c by omega)]
       have hsz:(d++⟨#[44]⟩).size=d.size+1:=by rw[xf,one2]
       have HS:Hid ((d++⟨#[44]⟩++x).size<=(4*n+21)*(k-a)):=by show _<=_;rw[xf,hsz];omega
       clear hb3 hsum hx
       go_wp2_with (go_at_call 192;refine hcall.mono ?_;rintro e w' ⟨rfl,hbw⟩)
       go_roundw
       case rel=>exact⟨m,c+1,k,d++⟨#[44]⟩++x,by omega,by omega,by omega,by go_num,rfl,rfl,hr',HS,hb.trans (hbw.mono (by omega))⟩
       case measure=>simp[intOf];omega
end
section
theorem zny {Tab:World->Prop}(F:zch Tab){n:Nat}{s:ByteArray}(IH:DecAtOK Tab n s)(hs:s.size<=4096)(hn:n<=100)(fs:List (Nat×Ty×ByteArray))(a:Nat)(w:World)(af:Option Addr)(lf cf:Nat)(ha:a<=s.size)(hlf:lf=fs.length)(hfl:fs.length<=9000000)(hT:Tab w)(hok:∀ f∈fs,f.1<256/\okT n f.2.1)(hr:RepF n w af fs) :
  Calls Tryz.prog 244 #[.slice af lf cf,.string s,.int .i64 a] w fun e w'=>e=.returned (zbk a (zbp (dec s n) fs ⟨#[123]⟩ a xe))/\Below w.heap.size w w':=by
 have _hs:s.size<=9000000:=by omega
 subst hlf;obtain⟨R,hR⟩:∃ R,R=zbp (dec s n) fs ⟨#[123]⟩ a xe:=⟨_,rfl⟩;rw[<- hR];have HR:Hid (R=zbp (dec s n) fs ⟨#[123]⟩ a xe):=hR;clear hR
 go_enter Tryz.func244,Tryz.ntmps244
 go_wp2_with fail
 go_loopw [9,10,11,20] (fun vd vb vm vi wr=>∃ (i b:Nat) (mk d:ByteArray),i<=fs.length/\a<=b/\b<=s.size/\vi=.int .i64 i/\vb=.int .i64 b/\vm=.string mk/\vd=.string d/\mk.size=1/\Hid (R=zbp (dec s n) (fs.drop i) mk b d)/\Hid (d.size<=(4*n+23)*(b-a))/\Below w.heap.size w wr) (fun _ _ _ i _=>fs.length-(intOf i).toNat)
 case atStart=>exact⟨0,a,⟨#[123]⟩,xe,xq _,xj _,ha,rfl,rfl,rfl,rfl,rfl,HR,xq _,Below.refl _ _⟩
 case round =>
  obtain⟨i,b,mk,d,hi,hjb,hbt,rfl,rfl,rfl,rfl,hmk,hR,hd,hb⟩:=hrel;have hTw:Tab wr:=F.1 _ _ hb hT;have hs2:=ziv hd.out (by omega) hn (by omega);have one1:(⟨#[125]⟩:ByteArray).size=1:=rfl;have one2:(⟨#[58]⟩:ByteArray).size=1:=rfl;by_cases hlt:i<fs.length
  ·obtain⟨f,hf⟩:∃ f,fs[i]?=some f:=⟨fs[i],xu hlt⟩;have hdrop:fs.drop i=f::fs.drop (i+1):=by
    rw[List.drop_eq_getElem_cons hlt];rw[xu hlt]at hf;simp at hf;rw[hf]
   obtain⟨hf256,hokf⟩:=hok f (List.mem_of_getElem? hf);have hr0:=hr;rcases hr with⟨hr,_⟩|⟨g,rfl,hcells⟩
   ·rw[hr]at hf;simp at hf
   ·obtain⟨p1,p2,p3,q1,q2,q3,hrep,k0,k1,k2,k3,k4,k5,k6⟩:=hcells i f hf;have hg:=zag k0;have k0:=zab hb k0;have k1:=zab hb k1;have k2:=zab hb k2;have k3:=zab hb k3;have k4:=zab hb k4;have k5:=zab hb k5;have k6:=zab hb k6;have hg':g<wr.heap.size:=zag k0;have hrepw:=hrep.keep hb;have hBa:∀ o,Below wr.heap.size wr (wr.alloc o):=fun o=>(Below.refl _ _).alloc (xj _) _;have hTa:∀ o,Tab (wr.alloc o):=fun o=>F.1 _ _ (hBa o) hTw;cases hx:dec s n f.2.1 b with
    |none =>
     have hr':Hid (R=none):=by show _=_;rw[hR.out,hdrop,zbp,hx]
     have hcall:=fun o=>IH.no hbt (hTa o) hokf (hrepw.keep (hBa o)) hx;clear hx
     go_wp2_with (go_at_call 192;refine(hcall _).mono ?_;rintro e w' ⟨rfl,hbw⟩)
     go_ret3
     rw[hr'.out];exact⟨rfl,hb.trans (((hBa _).mono hb.size).trans (hbw.mono (by have:=hb.size;simp;omega)))⟩
    |some p =>
     obtain⟨x,k⟩:=p;obtain⟨hb1,hb2,hbs⟩:=znu hx;have hso:(oneB f.1).size=1:=rfl;have hz1:(mk++oneB f.1).size=2:=by rw[xf,hmk,hso]
     have hz2:(mk++oneB f.1++⟨#[58]⟩).size=3:=by rw[xf,hz1,one2]
     have hs1:=ziv hbs (by omega) hn (by omega);have hz3:(mk++oneB f.1++⟨#[58]⟩++x).size=3+x.size:=by rw[xf,hz2]
     have HS:Hid ((d++(mk++oneB f.1++⟨#[58]⟩++x)).size<=(4*n+23)*(k-a)):=by
      show _<=_;rw[xf,hz3];have e1:=zdo (C:=4*n+23) (show a<=b by omega) (show b<=k by omega);have e2:(4*n+23)*(k-b)=(4*n+20)*(k-b)+3*(k-b):=by rw[show 4*n+23=(4*n+20)+3 by omega,xp]
      have:=hd.out;omega
     have hr':Hid (R=zbp (dec s n) (fs.drop (i+1)) ⟨#[44]⟩ k (d++(mk++oneB f.1++⟨#[58]⟩++x))):=by show _=_;rw[hR.out,hdrop,zbp,hx]
     have hcall:=fun o=>IH.yes hbt (hTa o) hokf (hrepw.keep (hBa o)) hx;clear hx hbs
     go_wp2_with (first|(go_at_call 192;refine(hcall _).mono ?_;rintro e w' ⟨rfl,hbw⟩;obtain⟨hc1,hf1⟩:=zap hbw)|(go_at_call 251;refine(zdp f.1 _ (by omega)).mono ?_;rintro e w2 ⟨rfl,hbw2⟩))
     go_roundw
     case rel=>exact⟨i+1,k,⟨#[44]⟩,d++(mk++oneB f.1++⟨#[58]⟩++x),by omega,by omega,by omega,by go_num,rfl,rfl,rfl,rfl,hr',HS,hb.trans (((hBa _).mono hb.size).trans ((hbw.mono (by have:=hb.size;simp;omega)).trans (hbw2.mono (by have:=hb.size;have:=hbw.size;simp at this;omega))))⟩
     case measure=>simp[intOf];omega
  ·have hnil:fs.drop i=[]:=List.drop_of_length_le (by omega);have hr':Hid (R=some (d++⟨#[125]⟩,b)):=by show _=_;rw[hR.out,hnil,zbp]
   go_wp2_with fail
   go_ret3
   rw[hr'.out];exact⟨rfl,hb⟩
end
section
theorem okT.in {n:Nat}{ty:Ty}(h:okT (n+1) ty)(hne:ty.inner≠[]):okT n ty.in:=by
 refine h.1 _ ?_;unfold Ty.in;cases hc:ty.inner with
 |nil=>exact absurd hc hne
 |cons x xs=>exact List.mem_cons_self ..
theorem zv4 {Tab:World->Prop}(F:zch Tab){n:Nat}{s:ByteArray}(IH:DecAtOK Tab n s)(hs:s.size<=4096)(hn:n<=100):DecAtOK Tab (n+1) s:=by
 intro ty a w ai af li ci lf cf ha hT hok hr;have _hs:s.size<=9000000:=by omega
 have hB:∀ o,Below w.heap.size w (w.alloc o):=fun o=>(Below.refl _ _).alloc (xj _) _;have hTa:∀ o,Tab (w.alloc o):=fun o=>F.1 _ _ (hB o) hT;have hl8:ty.letters.size<=8:=hr.1;have hlf:=hr.flds;by_cases h105:ty.kind=105
 ·have h105':((ty.kind:Int) == 105)=true:=by simp[h105]
  have hr':Hid (dec s (n+1) ty a=zbe (-2147483648) 2147483647 s a):=by show _=_;rw[dec,if_pos h105]
  clear h105 hr hlf hok;cases hx:zbe (-2147483648) 2147483647 s a with
  |none =>
   have hcall:∀ o,Calls Tryz.prog 239 #[.int .i64 (-2147483648),.int .i64 2147483647,.string s,.int .i64 a] (w.alloc o) fun e w'=>e=.returned (.tuple #[.string xe,.int .i64 a,.bool false])/\Below (w.alloc o).heap.size (w.alloc o) w':=fun o=>by have:Calls _ _ _ _ (fun e w'=>e=.returned (zbk a (zbe (-2147483648) 2147483647 s a))/\Below (w.alloc o).heap.size (w.alloc o) w'):=zhx F (-2147483648) 2147483647 s a (w.alloc o) _hs ha (by omega) (by omega) (hTa o);rw[hx]at this;exact this
   go_enter Tryz.func192,Tryz.ntmps192
   go_wp2_with (go_at_call 239;refine(hcall _).mono ?_;rintro e w' ⟨rfl,hbw⟩)
   go_ret3
   rw[hr'.out,hx];exact⟨rfl,(hB _).trans (hbw.mono (by simp))⟩
  |some p =>
   obtain⟨d,k⟩:=p;have hcall:∀ o,Calls Tryz.prog 239 #[.int .i64 (-2147483648),.int .i64 2147483647,.string s,.int .i64 a] (w.alloc o) fun e w'=>e=.returned (.tuple #[.string d,.int .i64 k,.bool true])/\Below (w.alloc o).heap.size (w.alloc o) w':=fun o=>by have:Calls _ _ _ _ (fun e w'=>e=.returned (zbk a (zbe (-2147483648) 2147483647 s a))/\Below (w.alloc o).heap.size (w.alloc o) w'):=zhx F (-2147483648) 2147483647 s a (w.alloc o) _hs ha (by omega) (by omega) (hTa o);rw[hx]at this;exact this
   go_enter Tryz.func192,Tryz.ntmps192
   go_wp2_with (go_at_call 239;refine(hcall _).mono ?_;rintro e w' ⟨rfl,hbw⟩)
   go_ret3
   rw[hr'.out,hx];exact⟨rfl,(hB _).trans (hbw.mono (by simp))⟩
 have h105':((ty.kind:Int) == 105)=false:=by simp;omega
 by_cases h108:ty.kind=108
 ·have h108':((ty.kind:Int) == 108)=true:=by simp[h108]
  have hr':Hid (dec s (n+1) ty a=zbe (-1000000000000000) 1000000000000000 s a):=by show _=_;rw[dec,if_neg h105,if_pos h108]
  clear h105 h108 hr hlf hok;cases hx:zbe (-1000000000000000) 1000000000000000 s a with
  |none =>
   have hcall:∀ o,Calls Tryz.prog 239 #[.int .i64 (-1000000000000000),.int .i64 1000000000000000,.string s,.int .i64 a] (w.alloc o) fun e w'=>e=.returned (.tuple #[.string xe,.int .i64 a,.bool false])/\Below (w.alloc o).heap.size (w.alloc o) w':=fun o=>by have:Calls _ _ _ _ (fun e w'=>e=.returned (zbk a (zbe (-1000000000000000) 1000000000000000 s a))/\Below (w.alloc o).heap.size (w.alloc o) w'):=zhx F (-1000000000000000) 1000000000000000 s a (w.alloc o) _hs ha (by omega) (by omega) (hTa o);rw[hx]at this;exact this
   go_enter Tryz.func192,Tryz.ntmps192
   go_wp2_with (go_at_call 239;refine(hcall _).mono ?_;rintro e w' ⟨rfl,hbw⟩)
   go_ret3
   rw[hr'.out,hx];exact⟨rfl,(hB _).trans (hbw.mono (by simp))⟩
  |some p =>
   obtain⟨d,k⟩:=p;have hcall:∀ o,Calls Tryz.prog 239 #[.int .i64 (-1000000000000000),.int .i64 1000000000000000,.string s,.int .i64 a] (w.alloc o) fun e w'=>e=.returned (.tuple #[.string d,.int .i64 k,.bool true])/\Below (w.alloc o).heap.size (w.alloc o) w':=fun o=>by have:Calls _ _ _ _ (fun e w'=>e=.returned (zbk a (zbe (-1000000000000000) 1000000000000000 s a))/\Below (w.alloc o).heap.size (w.alloc o) w'):=zhx F (-1000000000000000) 1000000000000000 s a (w.alloc o) _hs ha (by omega) (by omega) (hTa o);rw[hx]at this;exact this
   go_enter Tryz.func192,Tryz.ntmps192
   go_wp2_with (go_at_call 239;refine(hcall _).mono ?_;rintro e w' ⟨rfl,hbw⟩)
   go_ret3
   rw[hr'.out,hx];exact⟨rfl,(hB _).trans (hbw.mono (by simp))⟩
 have h108':((ty.kind:Int) == 108)=false:=by simp;omega
 by_cases h115:ty.kind=115
 ·have h115':((ty.kind:Int) == 115)=true:=by simp[h115]
  have hr':Hid (dec s (n+1) ty a=zca s a):=by show _=_;rw[dec,if_neg h105,if_neg h108,if_pos h115]
  clear h105 h108 h115 hr hlf hok;cases hx:zca s a with
  |none =>
   have hcall:∀ o,Calls Tryz.prog 240 #[.string s,.int .i64 a] (w.alloc o) fun e w'=>e=.returned (.tuple #[.string xe,.int .i64 a,.bool false])/\Below (w.alloc o).heap.size (w.alloc o) w':=fun o=>by have:Calls _ _ _ _ (fun e w'=>e=.returned (zbk a (zca s a))/\Below (w.alloc o).heap.size (w.alloc o) w'):=(znz s a (w.alloc o) _hs ha).mono (fun _ _ (h:_/\_)=>⟨h.1,h.2 ▸ Below.refl _ _⟩);rw[hx]at this;exact this
   go_enter Tryz.func192,Tryz.ntmps192
   go_wp2_with (go_at_call 240;refine(hcall _).mono ?_;rintro e w' ⟨rfl,hbw⟩)
   go_ret3
   rw[hr'.out,hx];exact⟨rfl,(hB _).trans (hbw.mono (by simp))⟩
  |some p =>
   obtain⟨d,k⟩:=p;have hcall:∀ o,Calls Tryz.prog 240 #[.string s,.int .i64 a] (w.alloc o) fun e w'=>e=.returned (.tuple #[.string d,.int .i64 k,.bool true])/\Below (w.alloc o).heap.size (w.alloc o) w':=fun o=>by have:Calls _ _ _ _ (fun e w'=>e=.returned (zbk a (zca s a))/\Below (w.alloc o).heap.size (w.alloc o) w'):=(znz s a (w.alloc o) _hs ha).mono (fun _ _ (h:_/\_)=>⟨h.1,h.2 ▸ Below.refl _ _⟩);rw[hx]at this;exact this
   go_enter Tryz.func192,Tryz.ntmps192
   go_wp2_with (go_at_call 240;refine(hcall _).mono ?_;rintro e w' ⟨rfl,hbw⟩)
   go_ret3
   rw[hr'.out,hx];exact⟨rfl,(hB _).trans (hbw.mono (by simp))⟩
 have h115':((ty.kind:Int) == 115)=false:=by simp;omega
 by_cases h60:ty.kind=60
 ·have h60':((ty.kind:Int) == 60)=true:=by simp[h60]
  have hr':Hid (dec s (n+1) ty a=zcv ty.letters s a):=by show _=_;rw[dec,if_neg h105,if_neg h108,if_neg h115,if_pos h60]
  clear h105 h108 h115 h60 hr hlf hok;cases hx:zcv ty.letters s a with
  |none =>
   have hcall:∀ o,Calls Tryz.prog 241 #[.string ty.letters,.string s,.int .i64 a] (w.alloc o) fun e w'=>e=.returned (.tuple #[.string xe,.int .i64 a,.bool false])/\Below (w.alloc o).heap.size (w.alloc o) w':=fun o=>by have:Calls _ _ _ _ (fun e w'=>e=.returned (zbk a (zcv ty.letters s a))/\Below (w.alloc o).heap.size (w.alloc o) w'):=znv ty.letters s a (w.alloc o) _hs hl8 ha;rw[hx]at this;exact this
   go_enter Tryz.func192,Tryz.ntmps192
   go_wp2_with (go_at_call 241;refine(hcall _).mono ?_;rintro e w' ⟨rfl,hbw⟩)
   go_ret3
   rw[hr'.out,hx];exact⟨rfl,(hB _).trans (hbw.mono (by simp))⟩
  |some p =>
   obtain⟨d,k⟩:=p;have hcall:∀ o,Calls Tryz.prog 241 #[.string ty.letters,.string s,.int .i64 a] (w.alloc o) fun e w'=>e=.returned (.tuple #[.string d,.int .i64 k,.bool true])/\Below (w.alloc o).heap.size (w.alloc o) w':=fun o=>by have:Calls _ _ _ _ (fun e w'=>e=.returned (zbk a (zcv ty.letters s a))/\Below (w.alloc o).heap.size (w.alloc o) w'):=znv ty.letters s a (w.alloc o) _hs hl8 ha;rw[hx]at this;exact this
   go_enter Tryz.func192,Tryz.ntmps192
   go_wp2_with (go_at_call 241;refine(hcall _).mono ?_;rintro e w' ⟨rfl,hbw⟩)
   go_ret3
   rw[hr'.out,hx];exact⟨rfl,(hB _).trans (hbw.mono (by simp))⟩
 have h60':((ty.kind:Int) == 60)=false:=by simp;omega
 by_cases h91:ty.kind=91
 ·have h91':((ty.kind:Int) == 91)=true:=by simp[h91]
  have hr':Hid (dec s (n+1) ty a=zdl (dec s n ty.in) s a):=by show _=_;rw[dec,if_neg h105,if_neg h108,if_neg h115,if_neg h60,if_pos h91]
  have hne:ty.inner≠[]:=hr.2.2.2.1.1 (by omega);have hin:=fun o=>zei n (w.alloc o) ai af li ci lf cf ty (hr.keep (hB o)) hne;have hoki:=hok.in hne;clear h105 h108 h115 h60 h91 hr hlf hok;cases hx:zdl (dec s n ty.in) s a with
  |none =>
   have hcall:∀ (w1:World) p1 p2 p3 q1 q2 q3,Tab w1->Rep n w1 p1 p2 p3 q1 q2 q3 ty.in->Calls Tryz.prog 242 #[.agg #[.int .i64 ty.in.kind,.string ty.in.letters,.bool ty.in.op,.slice p1 p2 p3,.slice q1 q2 q3],.string s,.int .i64 a] w1 fun e w'=>e=.returned (.tuple #[.string xe,.int .i64 a,.bool false])/\Below w1.heap.size w1 w':=fun w1 p1 p2 p3 q1 q2 q3 h0 h1=>by have:=znw F IH hs hn ty.in a w1 p1 q1 p2 p3 q2 q3 ha h0 hoki h1;rw[hx]at this;exact this
   go_enter Tryz.func192,Tryz.ntmps192
   go_wp2_with (first|(go_at_call 194;refine(hin _).mono ?_;rintro e w1 ⟨p1,p2,p3,q1,q2,q3,rfl,hr1,hb1⟩)|(go_at_call 242;refine(hcall _ _ _ _ _ _ _ (F.1 _ _ hb1 (hTa _)) hr1).mono ?_;rintro e w2 ⟨rfl,hb2⟩))
   go_ret3
   rw[hr'.out,hx];exact⟨rfl,(hB _).trans ((hb1.mono (by simp)).trans (hb2.mono (by have:=hb1.size;simp at this;omega)))⟩
  |some p =>
   obtain⟨d,k⟩:=p;have hcall:∀ (w1:World) p1 p2 p3 q1 q2 q3,Tab w1->Rep n w1 p1 p2 p3 q1 q2 q3 ty.in->Calls Tryz.prog 242 #[.agg #[.int .i64 ty.in.kind,.string ty.in.letters,.bool ty.in.op,.slice p1 p2 p3,.slice q1 q2 q3],.string s,.int .i64 a] w1 fun e w'=>e=.returned (.tuple #[.string d,.int .i64 k,.bool true])/\Below w1.heap.size w1 w':=fun w1 p1 p2 p3 q1 q2 q3 h0 h1=>by have:=znw F IH hs hn ty.in a w1 p1 q1 p2 p3 q2 q3 ha h0 hoki h1;rw[hx]at this;exact this
   go_enter Tryz.func192,Tryz.ntmps192
   go_wp2_with (first|(go_at_call 194;refine(hin _).mono ?_;rintro e w1 ⟨p1,p2,p3,q1,q2,q3,rfl,hr1,hb1⟩)|(go_at_call 242;refine(hcall _ _ _ _ _ _ _ (F.1 _ _ hb1 (hTa _)) hr1).mono ?_;rintro e w2 ⟨rfl,hb2⟩))
   go_ret3
   rw[hr'.out,hx];exact⟨rfl,(hB _).trans ((hb1.mono (by simp)).trans (hb2.mono (by have:=hb1.size;simp at this;omega)))⟩
 have h91':((ty.kind:Int) == 91)=false:=by simp;omega
 by_cases h63:ty.kind=63
 ·have h63':((ty.kind:Int) == 63)=true:=by simp[h63]
  have hr':Hid (dec s (n+1) ty a=zb9 (dec s n ty.in) s a):=by show _=_;rw[dec,if_neg h105,if_neg h108,if_neg h115,if_neg h60,if_neg h91,if_pos h63]
  have hne:ty.inner≠[]:=hr.2.2.2.1.1 (by omega);have hin:=fun o=>zei n (w.alloc o) ai af li ci lf cf ty (hr.keep (hB o)) hne;have hoki:=hok.in hne;clear h105 h108 h115 h60 h91 h63 hr hlf hok;cases hx:zb9 (dec s n ty.in) s a with
  |none =>
   have hcall:∀ (w1:World) p1 p2 p3 q1 q2 q3,Tab w1->Rep n w1 p1 p2 p3 q1 q2 q3 ty.in->Calls Tryz.prog 243 #[.agg #[.int .i64 ty.in.kind,.string ty.in.letters,.bool ty.in.op,.slice p1 p2 p3,.slice q1 q2 q3],.string s,.int .i64 a] w1 fun e w'=>e=.returned (.tuple #[.string xe,.int .i64 a,.bool false])/\Below w1.heap.size w1 w':=fun w1 p1 p2 p3 q1 q2 q3 h0 h1=>by have:=znx F IH hs hn ty.in a w1 p1 q1 p2 p3 q2 q3 ha h0 hoki h1;rw[hx]at this;exact this
   go_enter Tryz.func192,Tryz.ntmps192
   go_wp2_with (first|(go_at_call 194;refine(hin _).mono ?_;rintro e w1 ⟨p1,p2,p3,q1,q2,q3,rfl,hr1,hb1⟩)|(go_at_call 243;refine(hcall _ _ _ _ _ _ _ (F.1 _ _ hb1 (hTa _)) hr1).mono ?_;rintro e w2 ⟨rfl,hb2⟩))
   go_ret3
   rw[hr'.out,hx];exact⟨rfl,(hB _).trans ((hb1.mono (by simp)).trans (hb2.mono (by have:=hb1.size;simp at this;omega)))⟩
  |some p =>
   obtain⟨d,k⟩:=p;have hcall:∀ (w1:World) p1 p2 p3 q1 q2 q3,Tab w1->Rep n w1 p1 p2 p3 q1 q2 q3 ty.in->Calls Tryz.prog 243 #[.agg #[.int .i64 ty.in.kind,.string ty.in.letters,.bool ty.in.op,.slice p1 p2 p3,.slice q1 q2 q3],.string s,.int .i64 a] w1 fun e w'=>e=.returned (.tuple #[.string d,.int .i64 k,.bool true])/\Below w1.heap.size w1 w':=fun w1 p1 p2 p3 q1 q2 q3 h0 h1=>by have:=znx F IH hs hn ty.in a w1 p1 q1 p2 p3 q2 q3 ha h0 hoki h1;rw[hx]at this;exact this
   go_enter Tryz.func192,Tryz.ntmps192
   go_wp2_with (first|(go_at_call 194;refine(hin _).mono ?_;rintro e w1 ⟨p1,p2,p3,q1,q2,q3,rfl,hr1,hb1⟩)|(go_at_call 243;refine(hcall _ _ _ _ _ _ _ (F.1 _ _ hb1 (hTa _)) hr1).mono ?_;rintro e w2 ⟨rfl,hb2⟩))
   go_ret3
   rw[hr'.out,hx];exact⟨rfl,(hB _).trans ((hb1.mono (by simp)).trans (hb2.mono (by have:=hb1.size;simp at this;omega)))⟩
 have h63':((ty.kind:Int) == 63)=false:=by simp;omega
 by_cases h123:ty.kind=123
 ·have h123':((ty.kind:Int) == 123)=true:=by simp[h123]
  have hne:ty.fields≠[]:=hr.2.2.2.1.2 h123;have hr':Hid (dec s (n+1) ty a=zbp (dec s n) ty.fields ⟨#[123]⟩ a xe):=by show _=_;rw[dec,if_neg h105,if_neg h108,if_neg h115,if_neg h60,if_neg h91,if_neg h63,if_pos ⟨h123,hne⟩]
  obtain⟨hl1,hl2,hl3⟩:=hlf;have hrf:=fun o=>(hr.keep (hB o)).flds.2.2;have hokf:=hok.2;clear h105 h108 h115 h60 h91 h63 h123 hr hl3 hok hne;cases hx:zbp (dec s n) ty.fields ⟨#[123]⟩ a xe with
  |none =>
   have hcall:∀ o,Calls Tryz.prog 244 #[.slice af lf cf,.string s,.int .i64 a] (w.alloc o) fun e w'=>e=.returned (.tuple #[.string xe,.int .i64 a,.bool false])/\Below (w.alloc o).heap.size (w.alloc o) w':=fun o=>by have:=zny F IH hs hn ty.fields a (w.alloc o) af lf cf ha hl1 hl2 (hTa o) hokf (hrf o);rw[hx]at this;exact this
   clear hl1 hl2 hrf hokf
   go_enter Tryz.func192,Tryz.ntmps192
   go_wp2_with (go_at_call 244;refine(hcall _).mono ?_;rintro e w' ⟨rfl,hbw⟩)
   go_ret3
   rw[hr'.out,hx];exact⟨rfl,(hB _).trans (hbw.mono (by simp))⟩
  |some p =>
   obtain⟨d,k⟩:=p;have hcall:∀ o,Calls Tryz.prog 244 #[.slice af lf cf,.string s,.int .i64 a] (w.alloc o) fun e w'=>e=.returned (.tuple #[.string d,.int .i64 k,.bool true])/\Below (w.alloc o).heap.size (w.alloc o) w':=fun o=>by have:=zny F IH hs hn ty.fields a (w.alloc o) af lf cf ha hl1 hl2 (hTa o) hokf (hrf o);rw[hx]at this;exact this
   clear hl1 hl2 hrf hokf
   go_enter Tryz.func192,Tryz.ntmps192
   go_wp2_with (go_at_call 244;refine(hcall _).mono ?_;rintro e w' ⟨rfl,hbw⟩)
   go_ret3
   rw[hr'.out,hx];exact⟨rfl,(hB _).trans (hbw.mono (by simp))⟩
 have h123':((ty.kind:Int) == 123)=false:=by simp;omega
 have hr':Hid (dec s (n+1) ty a=none):=by show _=_;rw[dec,if_neg h105,if_neg h108,if_neg h115,if_neg h60,if_neg h91,if_neg h63,if_neg (fun h=>h123 h.1)]
 clear h105 h108 h115 h60 h91 h63 h123 hr hlf hok
 go_enter Tryz.func192,Tryz.ntmps192
 go_wp2_with fail
 go_ret3
 rw[hr'.out];exact⟨rfl,hB _⟩
theorem zhw {Tab:World->Prop}(F:zch Tab){s:ByteArray}(hs:s.size<=4096):∀ n,n<=101->DecAtOK Tab n s
 |0,_=>fun _ _ _ _ _ _ _ _ _ _ _ _ h=>h.elim
 |n+1,hn=>zv4 F (zhw F hs n (by omega)) hs (by omega)
end
end Go.Proofs.YtkkekopomiehlabGreatDoor
