import Derived.Test.YtkkekopomiehlabGreatDoorEParse6
import Derived.Test.YtkkekopomiehlabGreatDoorShelf
import Derived.Lib.AppendIntMem
import Derived.Lib.LaidTab
set_option linter.unusedVariables false
set_option linter.unusedSimpArgs false
set_option maxHeartbeats 40000000
open ByteArray renaming empty->xe,ext->xm
open Nat renaming le_refl->xf,zero_le->xh
open List renaming not_mem_nil->xg,mem_singleton->xj
open Go.RowKit
namespace Go.Proofs.YtkkekopomiehlabGreatDoor
def pAll (st:Bool)(s:ByteArray):Option Ty :=
 match zae st s s.size 0 with
 |none=>none
 |some (t,k)=>if k=s.size then some t else none
def TRet (B n:Nat)(no yes:Value)(r:Option Ty)(e:Ending)(w':World):Prop :=
 match r with
 |some ty=>∃ ai li ci af lf cf,e=.returned (.tuple #[.agg #[.int .i64 ty.kind,.string ty.letters,.bool ty.op,.slice ai li ci,.slice af lf cf],yes])/\RepB (fun b=>B<=b) n w' ai li ci af lf cf ty
 |none=>e=.returned (.tuple #[.agg #[.int .i64 0,.string xe,.bool false,.slice none 0 0,.slice none 0 0],no])
theorem zjf {f:FuncId}{args:Array Value}{w:World}{B n:Nat}{no yes:Value}{r:Option Ty}(h:Calls Tryz.prog f args w fun e w'=>TRet B n no yes r e w'/\Below w.heap.size w w')(hr:r=none) :
  Calls Tryz.prog f args w fun e w'=>e=.returned (.tuple #[.agg #[.int .i64 0,.string xe,.bool false,.slice none 0 0,.slice none 0 0],no])/\Below w.heap.size w w':=by
 refine h.mono ?_;rintro e w' ⟨h1,h2⟩;rw[hr]at h1;exact⟨h1,h2⟩
theorem zfy {f:FuncId}{args:Array Value}{w:World}{B n:Nat}{no yes:Value}{r:Option Ty}{ty:Ty}(h:Calls Tryz.prog f args w fun e w'=>TRet B n no yes r e w'/\Below w.heap.size w w')(hr:r=some ty) :
  Calls Tryz.prog f args w fun e w'=>∃ ai li ci af lf cf,e=.returned (.tuple #[.agg #[.int .i64 ty.kind,.string ty.letters,.bool ty.op,.slice ai li ci,.slice af lf cf],yes])/\RepB (fun b=>B<=b) n w' ai li ci af lf cf ty/\Below w.heap.size w w':=by
 refine h.mono ?_;rintro e w' ⟨h1,h2⟩;rw[hr]at h1;obtain⟨ai,li,ci,af,lf,cf,h1,h3⟩:=h1;exact⟨ai,li,ci,af,lf,cf,h1,h3,h2⟩
theorem zhg {s:ByteArray}(hs:s.size<=60)(w:World) :
  Calls Tryz.prog 176 #[.string s] w fun e w'=>TRet w.heap.size s.size (.bool false) (.bool true) (pAll false s) e w'/\Below w.heap.size w w':=by
 have _hs:s.size<=9000000:=by omega
 have hB:∀ o,Below w.heap.size w (w.alloc o):=fun o=>(Below.refl _ _).alloc (xf _) _;have IH:=zqk (s:=s) (by omega) s.size (by omega);cases hx:zae false s s.size 0 with
 |none =>
  have hr':Hid (pAll false s=none):=by show _=_;unfold pAll;rw[hx]
  have hcall:=fun w=>IH.no w (xh _) (by omega) hx;clear hx IH
  go_enter Tryz.func176,Tryz.ntmps176
  go_wp2_with (go_at_call 226;refine(hcall _).mono ?_;rintro e w1 ⟨k',rfl,hb1⟩;obtain⟨hc1,hf1⟩:=zap hb1;have hz1:w.heap.size<w1.heap.size:=(by have:=hb1.size;simp at this;omega))
  refine bodyPost_ret (v:=.tuple #[.agg #[.int .i64 0,.string xe,.bool false,.slice none 0 0,.slice none 0 0],.bool false]) (by simp[results,Tryz.results176,go_sem,hc1,hz1];rfl) rfl ?_;rw[hr'.out];exact⟨rfl,Below.alloc' (Below.set5 ((hB _).trans (hb1.mono (by simp))) (xf _)) _⟩
 |some p =>
  obtain⟨ty,k⟩:=p;have hcall:=fun w=>IH.yes w (xh _) (by omega) hx;by_cases hk:k=s.size
  ·subst hk;have hk':((s.size:Int) != (s.size:Int))=false:=by simp
   have hr':Hid (pAll false s=some ty):=by show _=_;unfold pAll;rw[hx];simp only[if_true]
   clear hx IH
   go_enter Tryz.func176,Tryz.ntmps176
   go_wp2_with (go_at_call 226;refine(hcall _).mono ?_;rintro e w1 ⟨ai,li,ci,af,lf,cf,rfl,hr1,hb1⟩;obtain⟨hc1,hf1⟩:=zap hb1;have hz1:w.heap.size<w1.heap.size:=(by have:=hb1.size;simp at this;omega))
   refine bodyPost_ret (v:=.tuple #[.agg #[.int .i64 ty.kind,.string ty.letters,.bool ty.op,.slice ai li ci,.slice af lf cf],.bool true]) (by simp[results,Tryz.results176,go_sem,hc1,hz1]) rfl ?_;rw[hr'.out];exact⟨⟨ai,li,ci,af,lf,cf,rfl,(hr1.keep (fun b o v hS h=>zah _ (zco h (by simp at hS;omega)))).imp (fun b _ h=>by simp at h;omega)⟩,Below.alloc' (Below.set5 ((hB _).trans (hb1.mono (by simp))) (xf _)) _⟩
  ·have hk':((k:Int) != (s.size:Int))=true:=by simp;omega
   have hr':Hid (pAll false s=none):=by show _=_;unfold pAll;rw[hx];simp only[if_neg hk]
   clear hx IH
   go_enter Tryz.func176,Tryz.ntmps176
   go_wp2_with (go_at_call 226;refine(hcall _).mono ?_;rintro e w1 ⟨ai,li,ci,af,lf,cf,rfl,hr1,hb1⟩;obtain⟨hc1,hf1⟩:=zap hb1;have hz1:w.heap.size<w1.heap.size:=(by have:=hb1.size;simp at this;omega))
   refine bodyPost_ret (v:=.tuple #[.agg #[.int .i64 0,.string xe,.bool false,.slice none 0 0,.slice none 0 0],.bool false]) (by simp[results,Tryz.results176,go_sem,hc1,hz1];rfl) rfl ?_;rw[hr'.out];exact⟨rfl,Below.alloc' (Below.set5 ((hB _).trans (hb1.mono (by simp))) (xf _)) _⟩
def chk (st:Bool)(s:ByteArray):Int:=if 60<s.size then 1 else if (pAll st s).isSome=true then 0 else 2
theorem zsk {s:ByteArray}(hs:60<s.size)(hm:s.size<=maxLen)(w:World) :
  Calls Tryz.prog 131 #[.string s] w fun e w'=>e=.returned (.tuple #[.agg #[.int .i64 0,.string xe,.bool false,.slice none 0 0,.slice none 0 0],.int .i64 1])/\Below w.heap.size w w':=by
 unfold maxLen at hm
 go_enter Tryz.func131,Tryz.ntmps131
 go_wp2_with fail
 exact bodyPost_ret (v:=.tuple #[.agg #[.int .i64 0,.string xe,.bool false,.slice none 0 0,.slice none 0 0],.int .i64 1]) (by simp[results,Tryz.results131,go_sem];rfl) rfl ⟨rfl,(Below.refl _ _).alloc (xf _) _⟩
theorem zfs {s:ByteArray}(hs:s.size<=60)(w:World) :
  Calls Tryz.prog 131 #[.string s] w fun e w'=>TRet w.heap.size s.size (.int .i64 2) (.int .i64 0) (pAll false s) e w'/\Below w.heap.size w w':=by
 have _hs:s.size<=9000000:=by omega
 have hB:∀ o,Below w.heap.size w (w.alloc o):=fun o=>(Below.refl _ _).alloc (xf _) _;cases hx:pAll false s with
 |none =>
  have hcall:=fun w=>zjf (zhg hs w) hx;clear hx
  go_enter Tryz.func131,Tryz.ntmps131
  go_wp2_with (go_at_call 176;refine(hcall _).mono ?_;rintro e w1 ⟨rfl,hb1⟩;obtain⟨hc1,hf1⟩:=zap hb1;have hz1:w.heap.size<w1.heap.size:=(by have:=hb1.size;simp at this;omega))
  exact bodyPost_ret (v:=.tuple #[.agg #[.int .i64 0,.string xe,.bool false,.slice none 0 0,.slice none 0 0],.int .i64 2]) (by simp[results,Tryz.results131,go_sem,hc1,hz1];rfl) rfl ⟨rfl,Below.alloc' (Below.set5 ((hB _).trans (hb1.mono (by simp))) (xf _)) _⟩
 |some ty =>
  have hcall:=fun w=>zfy (zhg hs w) hx;clear hx
  go_enter Tryz.func131,Tryz.ntmps131
  go_wp2_with (go_at_call 176;refine(hcall _).mono ?_;rintro e w1 ⟨ai,li,ci,af,lf,cf,rfl,hr1,hb1⟩;obtain⟨hc1,hf1⟩:=zap hb1;have hz1:w.heap.size<w1.heap.size:=(by have:=hb1.size;simp at this;omega))
  refine bodyPost_ret (v:=.tuple #[.agg #[.int .i64 ty.kind,.string ty.letters,.bool ty.op,.slice ai li ci,.slice af lf cf],.int .i64 0]) (by simp[results,Tryz.results131,go_sem,hc1,hz1]) rfl ?_;exact⟨⟨ai,li,ci,af,lf,cf,rfl,(hr1.keep (fun b o v hS h=>zah _ (zco h (by simp at hS;omega)))).imp (fun b _ h=>by simp at h;omega)⟩,Below.alloc' (Below.set5 ((hB _).trans (hb1.mono (by simp))) (xf _)) _⟩
section
set_option maxRecDepth 4000
theorem zzh {pt:Nat->Option (Ty×Nat)}{ef:Ty->Nat->Option (ByteArray×Nat)}{s:ByteArray}{n i k:Nat}{f:Nat×Ty×ByteArray}(hpt:∀ i t k,pt i=some (t,k)->okT n t)(h:zar pt ef s i=some (f,k)):f.1<256/\okT n f.2.1:=by
 unfold zar at h;split at h
 ·rename_i hc;have hb:(bAt s i).toNat<256:=by have:=hc.1;simp[isL]at this;omega
  split at h
  ·cases h
  ·rename_i t k' ht;split at h
   ·split at h
    ·cases h
    ·cases h;exact⟨hb,hpt _ _ _ ht⟩
   ·cases h;exact⟨hb,hpt _ _ _ ht⟩
 ·cases h
theorem zp3 {pf:Nat->Option ((Nat×Ty×ByteArray)×Nat)}{s:ByteArray}{n:Nat}(hpf:∀ i f k,pf i=some (f,k)->f.1<256/\okT n f.2.1):∀ (m a:Nat) (acc fs:List (Nat×Ty×ByteArray)) (k:Nat),(∀ f∈acc,f.1<256/\okT n f.2.1)->za1 pf s m a acc=some (fs,k)->∀ f∈fs,f.1<256/\okT n f.2.1
 |0,_,_,_,_,_,h=>by cases h
 |m+1,a,acc,fs,k,ha,h=>by
  rw[za1]at h;split at h
  ·cases h
  ·rename_i f k' hf;have hf':=hpf _ _ _ hf;have hacc:∀ g∈acc++[f],g.1<256/\okT n g.2.1:=by
    intro g hg;rcases List.mem_append.1 hg with hg|hg
    ·exact ha g hg
    ·rw[xj.1 hg];exact hf'
   split at h
   ·cases h
   ·split at h
    ·cases h;exact hacc
    ·split at h
     ·exact zp3 hpf m _ _ _ _ hacc h
     ·cases h
theorem zgq (n:Nat)(ty:Ty)(h1:ty.inner=[])(h2:ty.fields=[]):okT n ty:=by
 cases n with
 |zero=>trivial
 |succ n=>exact⟨(fun t ht=>by rw[h1]at ht;exact absurd ht xg),(fun f hf=>by rw[h2]at hf;exact absurd hf xg)⟩
theorem zku {n:Nat}{ty t:Ty}(h1:ty.inner=[t])(h2:ty.fields=[])(h:okT n t):okT (n+1) ty :=
 ⟨(fun u hu=>by rw[h1,xj]at hu;rw[hu];exact h),(fun f hf=>by rw[h2]at hf;exact absurd hf xg)⟩
theorem zqe (st:Bool)(s:ByteArray):∀ (n i:Nat) (ty:Ty) (k:Nat),zae st s n i=some (ty,k)->okT n ty
 |0,_,_,_,h=>by cases h
 |n+1,i,ty,k,h=>by
  have IH:=zqe st s n;rw[zae]at h;split at h
  ·cases h;exact zgq _ _ rfl rfl
  ·split at h
   ·cases h;exact zgq _ _ rfl rfl
   ·split at h
    ·cases h;exact zgq _ _ rfl rfl
    ·split at h
     ·simp only[zb4]at h;split at h
      ·cases h
      ·split at h
       iterate 2
        ·split at h
         ·cases h;exact zgq _ _ rfl rfl
         ·cases h
     ·split at h
      ·unfold zcd at h;split at h
       ·cases h
       ·rename_i t k' ht;split at h
        ·cases h;exact zku rfl rfl (IH _ _ _ ht)
        ·cases h
      ·split at h
       ·unfold zce at h;split at h
        ·cases h
        ·rename_i t k' ht
         first
         |(split at h
           ·cases h
           ·cases h;exact zku rfl rfl (IH _ _ _ ht))
         |(cases h;exact zku rfl rfl (IH _ _ _ ht))
       ·split at h
        ·unfold pRec at h;split at h
         ·cases h
         ·rename_i fs k' hfs;cases h;refine⟨(fun u hu=>absurd hu xg),?_⟩;exact zp3 (fun i f k hf=>zzh (fun i t k ht=>IH i t k ht) hf) _ _ _ _ _ (fun f hf=>absurd hf xg) hfs
        ·cases h
theorem zkz {st:Bool}{s:ByteArray}{ty:Ty}(h:pAll st s=some ty):okT s.size ty:=by
 unfold pAll at h;split at h
 ·cases h
 ·rename_i t k ht;split at h
  ·cases h;exact zqe _ _ _ _ _ _ ht
  ·cases h
def zd3 (d:ByteArray)(n:Nat)(ty:Ty):Option ByteArray :=
 match dec d n ty 0 with
 |none=>none
 |some (t,k)=>if k=d.size then some t else none
def dRet:Option ByteArray->Value
 |some d=>.tuple #[.string d,.bool true]
 |none=>.tuple #[.string xe,.bool false]
theorem zrm {Tab:World->Prop}(F:zch Tab){t:ByteArray}(ht:t.size<=4096){n:Nat}(hn:n<=100)(ty:Ty)(w:World)(ai af:Option Addr)(li ci lf cf:Nat)(hT:Tab w)(hok:okT n ty)(hr:Rep n w ai li ci af lf cf ty) :
  Calls Tryz.prog 129 #[.agg #[.int .i64 ty.kind,.string ty.letters,.bool ty.op,.slice ai li ci,.slice af lf cf],.string t] w fun e w'=>e=.returned (dRet (zd3 t n ty))/\Below w.heap.size w w':=by
 have hB:∀ o,Below w.heap.size w (w.alloc o):=fun o=>(Below.refl _ _).alloc (xf _) _;have IH:=zhw F ht n (by omega);cases hx:dec t n ty 0 with
 |none =>
  have hr':Hid (zd3 t n ty=none):=by show _=_;unfold zd3;rw[hx]
  have hcall:=fun o=>IH.no (xh _) (F.1 _ _ (hB o) hT) hok (hr.keep (hB o)) hx;clear hx IH
  go_enter Tryz.func129,Tryz.ntmps129
  go_wp2_with (go_at_call 192;refine(hcall _).mono ?_;rintro e w1 ⟨rfl,hb1⟩)
  go_ret2
  rw[hr'.out];exact⟨rfl,(hB _).trans (hb1.mono (by simp))⟩
 |some p =>
  obtain⟨d,k⟩:=p;have hcall:=fun o=>IH.yes (xh _) (F.1 _ _ (hB o) hT) hok (hr.keep (hB o)) hx;by_cases hk:k=t.size
  ·have hk':((k:Int) != (t.size:Int))=false:=by simp;omega
   have hr':Hid (zd3 t n ty=some d):=by show _=_;unfold zd3;rw[hx];simp only[if_pos hk]
   clear hx IH hk
   go_enter Tryz.func129,Tryz.ntmps129
   go_wp2_with (go_at_call 192;refine(hcall _).mono ?_;rintro e w1 ⟨rfl,hb1⟩)
   go_ret2
   rw[hr'.out];exact⟨rfl,(hB _).trans (hb1.mono (by simp))⟩
  ·have hk':((k:Int) != (t.size:Int))=true:=by simp;omega
   have hr':Hid (zd3 t n ty=none):=by show _=_;unfold zd3;rw[hx];simp only[if_neg hk]
   clear hx IH hk
   go_enter Tryz.func129,Tryz.ntmps129
   go_wp2_with (go_at_call 192;refine(hcall _).mono ?_;rintro e w1 ⟨rfl,hb1⟩)
   go_ret2
   rw[hr'.out];exact⟨rfl,(hB _).trans (hb1.mono (by simp))⟩
end
theorem zj4:∀ (m u:Nat),u<10 ^ (m+1)->decS m u=⟨(Lib.decDigits u).toArray⟩
 |0,u,h=>by
  rw[decS,Lib.decDigits,dif_pos (by simpa using h)];rfl
 |m+1,u,h=>by
  rw[decS,Lib.decDigits];by_cases hu:u<10
  ·rw[if_pos hu,dif_pos hu];rfl
  ·rw[if_neg hu,dif_neg hu,zj4 m (u / 10) (by rw[Nat.pow_succ]at h;omega)];apply xm;simp[oneB]
theorem zvy (n:Int)(h0:-1000000000000000<=n)(h1:n<=1000000000000000):decI n=⟨(Lib.itoa n).toArray⟩:=by
 unfold decI Lib.itoa;by_cases hn:n<0
 ·rw[if_pos hn,if_pos hn,zj4 18 _ (by omega),show (-n).toNat=n.natAbs by omega];apply xm;simp
 ·rw[if_neg hn,if_neg hn,zj4 18 _ (by omega)]
def Tab (w : World) : Prop := Lib.TabIs Tryz.prog w "internal/strconv.uint64pow10" .u64 Lib.pow10Tab
theorem g_pow : Tryz.prog.globalNamed "internal/strconv.uint64pow10" = some 0 := by kernel_rfl
theorem g_powType:(Tryz.prog.globals[0]?).map (·.type)=some 352:=by kernel_rfl
theorem zu6:Tryz.prog.cellsOf 352=20:=by kernel_rfl
theorem zu7:Tryz.prog.cellsOf 346=1:=by kernel_rfl
theorem Tab.lt {w:World}(h:Tab w):0<w.heap.size:=by
 have:=Lib.TabIs.cell h g_pow 0 (by decide);exact zag this
theorem Tab.keep {w w':World}(hb:Below w.heap.size w w')(h:Tab w):Tab w':=by
 have hl:=h.lt;unfold Tab Lib.TabIs World.var? at h ⊢;rw[g_pow]at h ⊢;simp only[Option.bind_some]at h ⊢;rw[hb.block _ hl];exact h
theorem zow:zch Tab:=by
 refine⟨fun w w' hb h=>h.keep hb,fun n w h0 h1 hT=>?_⟩;refine(Tryz.strconv_FormatInt_10 n (by omega) (by omega) w hT).mono ?_;rintro e w' ⟨rfl,k,os,rfl⟩;rw[zvy n h0 h1];exact⟨rfl,Lib.below_grow _ w (xf _) k os⟩
end Go.Proofs.YtkkekopomiehlabGreatDoor
