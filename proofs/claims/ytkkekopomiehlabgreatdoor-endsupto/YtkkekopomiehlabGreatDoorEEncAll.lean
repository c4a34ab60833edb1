import Derived.Test.YtkkekopomiehlabGreatDoorEPure
import Derived.Deep.RegionHeld3
set_option linter.unusedVariables false
set_option linter.unusedSimpArgs false
set_option maxHeartbeats 40000000
open ByteArray renaming empty->xe
open Nat renaming le_refl->xf,zero_le->xj,lt_or_ge->xz
open List renaming getElem?_append_left->xg,getElem?_eq_getElem->xh,findIdx?_eq_some_iff_getElem->xm,getElem?_eq_none->xo,getElem?_append_right->xq,findIdx?_eq_none_iff->xu
open Go.World renaming news_of_block->xp,cell?_of_block->xv
open Go.Value renaming oneCell'->xy
open Go.RowKit
namespace Go.Proofs.YtkkekopomiehlabGreatDoor
theorem zwi {n:Nat}{t:ByteArray}(IH:EncAtOK n t)(ht:t.size<=4096)(hn:n<=100):EncAtOK (n+1) t:=by
 intro ty j w ai af li ci lf cf hj hr;have _hs:t.size<=9000000:=by omega
 have hB:∀ o,Below w.heap.size w (w.alloc o):=fun o=>(Below.refl _ _).alloc (xf _) _;have hl8:ty.letters.size<=8:=hr.1;have hlf:=hr.flds;by_cases h105:ty.kind=105
 ·have h105':((ty.kind:Int) == 105)=true:=by simp[h105]
  have hr':Hid (enc false t (n+1) ty j=zbf false (-2147483648) 2147483647 t j):=by show _=_;rw[enc,if_pos h105]
  clear h105 hr hlf
  go_enter Tryz.func238,Tryz.ntmps238
  cases hx:zbf false (-2147483648) 2147483647 t j with
  |none =>
   have hcall:∀ o,Calls Tryz.prog 286 #[.int .i64 (-2147483648),.int .i64 2147483647,.string t,.int .i64 j] (w.alloc o) fun e w'=>e=.returned (.tuple #[.string xe,.int .i64 j,.bool false])/\Below (w.alloc o).heap.size (w.alloc o) w':=fun o=>by have:=zh0 (-2147483648) 2147483647 t j (w.alloc o) _hs hj;rw[hx]at this;exact this
   go_wp2_with (go_at_call 286;refine(hcall _).mono ?_;rintro e w' ⟨rfl,hbw⟩)
   go_ret3
   rw[hr'.out,hx];exact⟨rfl,(hB _).trans (hbw.mono (by simp))⟩
  |some p =>
   obtain⟨d,k⟩:=p;have hcall:∀ o,Calls Tryz.prog 286 #[.int .i64 (-2147483648),.int .i64 2147483647,.string t,.int .i64 j] (w.alloc o) fun e w'=>e=.returned (.tuple #[.string d,.int .i64 k,.bool true])/\Below (w.alloc o).heap.size (w.alloc o) w':=fun o=>by have:=zh0 (-2147483648) 2147483647 t j (w.alloc o) _hs hj;rw[hx]at this;exact this
   go_wp2_with (go_at_call 286;refine(hcall _).mono ?_;rintro e w' ⟨rfl,hbw⟩)
   go_ret3
   rw[hr'.out,hx];exact⟨rfl,(hB _).trans (hbw.mono (by simp))⟩
 have h105':((ty.kind:Int) == 105)=false:=by simp;omega
 by_cases h108:ty.kind=108
 ·have h108':((ty.kind:Int) == 108)=true:=by simp[h108]
  have hr':Hid (enc false t (n+1) ty j=zbf false (-1000000000000000) 1000000000000000 t j):=by show _=_;rw[enc,if_neg h105,if_pos h108]
  clear h105 h108 hr hlf
  go_enter Tryz.func238,Tryz.ntmps238
  cases hx:zbf false (-1000000000000000) 1000000000000000 t j with
  |none =>
   have hcall:∀ o,Calls Tryz.prog 286 #[.int .i64 (-1000000000000000),.int .i64 1000000000000000,.string t,.int .i64 j] (w.alloc o) fun e w'=>e=.returned (.tuple #[.string xe,.int .i64 j,.bool false])/\Below (w.alloc o).heap.size (w.alloc o) w':=fun o=>by have:=zh0 (-1000000000000000) 1000000000000000 t j (w.alloc o) _hs hj;rw[hx]at this;exact this
   go_wp2_with (go_at_call 286;refine(hcall _).mono ?_;rintro e w' ⟨rfl,hbw⟩)
   go_ret3
   rw[hr'.out,hx];exact⟨rfl,(hB _).trans (hbw.mono (by simp))⟩
  |some p =>
   obtain⟨d,k⟩:=p;have hcall:∀ o,Calls Tryz.prog 286 #[.int .i64 (-1000000000000000),.int .i64 1000000000000000,.string t,.int .i64 j] (w.alloc o) fun e w'=>e=.returned (.tuple #[.string d,.int .i64 k,.bool true])/\Below (w.alloc o).heap.size (w.alloc o) w':=fun o=>by have:=zh0 (-1000000000000000) 1000000000000000 t j (w.alloc o) _hs hj;rw[hx]at this;exact this
   go_wp2_with (go_at_call 286;refine(hcall _).mono ?_;rintro e w' ⟨rfl,hbw⟩)
   go_ret3
   rw[hr'.out,hx];exact⟨rfl,(hB _).trans (hbw.mono (by simp))⟩
 have h108':((ty.kind:Int) == 108)=false:=by simp;omega
 by_cases h115:ty.kind=115
 ·have h115':((ty.kind:Int) == 115)=true:=by simp[h115]
  have hr':Hid (enc false t (n+1) ty j=zb2 t j):=by show _=_;rw[enc,if_neg h105,if_neg h108,if_pos h115]
  clear h105 h108 h115 hr hlf
  go_enter Tryz.func238,Tryz.ntmps238
  cases hx:zb2 t j with
  |none =>
   have hcall:∀ o,Calls Tryz.prog 287 #[.string t,.int .i64 j] (w.alloc o) fun e w'=>e=.returned (.tuple #[.string xe,.int .i64 j,.bool false])/\Below (w.alloc o).heap.size (w.alloc o) w':=fun o=>by have:=zon t j (w.alloc o) _hs hj;rw[hx]at this;exact this
   go_wp2_with (go_at_call 287;refine(hcall _).mono ?_;rintro e w' ⟨rfl,hbw⟩)
   go_ret3
   rw[hr'.out,hx];exact⟨rfl,(hB _).trans (hbw.mono (by simp))⟩
  |some p =>
   obtain⟨d,k⟩:=p;have hcall:∀ o,Calls Tryz.prog 287 #[.string t,.int .i64 j] (w.alloc o) fun e w'=>e=.returned (.tuple #[.string d,.int .i64 k,.bool true])/\Below (w.alloc o).heap.size (w.alloc o) w':=fun o=>by have:=zon t j (w.alloc o) _hs hj;rw[hx]at this;exact this
   go_wp2_with (go_at_call 287;refine(hcall _).mono ?_;rintro e w' ⟨rfl,hbw⟩)
   go_ret3
   rw[hr'.out,hx];exact⟨rfl,(hB _).trans (hbw.mono (by simp))⟩
 have h115':((ty.kind:Int) == 115)=false:=by simp;omega
 by_cases h60:ty.kind=60
 ·have h60':((ty.kind:Int) == 60)=true:=by simp[h60]
  have hr':Hid (enc false t (n+1) ty j=zde ty.letters t j):=by show _=_;rw[enc,if_neg h105,if_neg h108,if_neg h115,if_pos h60];rfl
  clear h105 h108 h115 h60 hr hlf
  go_enter Tryz.func238,Tryz.ntmps238
  cases hx:zde ty.letters t j with
  |none =>
   have hcall:∀ o,Calls Tryz.prog 288 #[.string ty.letters,.string t,.int .i64 j] (w.alloc o) fun e w'=>e=.returned (.tuple #[.string xe,.int .i64 j,.bool false])/\Below (w.alloc o).heap.size (w.alloc o) w':=fun o=>by have:=zoj ty.letters t j (w.alloc o) _hs hl8 hj;rw[hx]at this;exact this
   go_wp2_with (go_at_call 288;refine(hcall _).mono ?_;rintro e w' ⟨rfl,hbw⟩)
   go_ret3
   rw[hr'.out,hx];exact⟨rfl,(hB _).trans (hbw.mono (by simp))⟩
  |some p =>
   obtain⟨d,k⟩:=p;have hcall:∀ o,Calls Tryz.prog 288 #[.string ty.letters,.string t,.int .i64 j] (w.alloc o) fun e w'=>e=.returned (.tuple #[.string d,.int .i64 k,.bool true])/\Below (w.alloc o).heap.size (w.alloc o) w':=fun o=>by have:=zoj ty.letters t j (w.alloc o) _hs hl8 hj;rw[hx]at this;exact this
   go_wp2_with (go_at_call 288;refine(hcall _).mono ?_;rintro e w' ⟨rfl,hbw⟩)
   go_ret3
   rw[hr'.out,hx];exact⟨rfl,(hB _).trans (hbw.mono (by simp))⟩
 have h60':((ty.kind:Int) == 60)=false:=by simp;omega
 by_cases h91:ty.kind=91
 ·have h91':((ty.kind:Int) == 91)=true:=by simp[h91]
  have hr':Hid (enc false t (n+1) ty j=zb1 (enc false t n ty.in) t j):=by show _=_;rw[enc,if_neg h105,if_neg h108,if_neg h115,if_neg h60,if_pos h91]
  have hne:ty.inner≠[]:=hr.2.2.2.1.1 (by omega);have hin:=fun o=>zei n (w.alloc o) ai af li ci lf cf ty (hr.keep (hB o)) hne;clear h105 h108 h115 h60 h91 hr hlf;cases hx:zb1 (enc false t n ty.in) t j with
  |none =>
   have hcall:∀ (w1:World) p1 p2 p3 q1 q2 q3,Rep n w1 p1 p2 p3 q1 q2 q3 ty.in->Calls Tryz.prog 289 #[.agg #[.int .i64 ty.in.kind,.string ty.in.letters,.bool ty.in.op,.slice p1 p2 p3,.slice q1 q2 q3],.string t,.int .i64 j] w1 fun e w'=>e=.returned (.tuple #[.string xe,.int .i64 j,.bool false])/\Below w1.heap.size w1 w':=fun w1 p1 p2 p3 q1 q2 q3 h1=>by have:=zok IH ht hn ty.in j w1 p1 q1 p2 p3 q2 q3 hj h1;rw[hx]at this;exact this
   go_enter Tryz.func238,Tryz.ntmps238
   go_wp2_with (first|(go_at_call 194;refine(hin _).mono ?_;rintro e w1 ⟨p1,p2,p3,q1,q2,q3,rfl,hr1,hb1⟩)|(go_at_call 289;refine(hcall _ _ _ _ _ _ _ hr1).mono ?_;rintro e w2 ⟨rfl,hb2⟩))
   go_ret3
   rw[hr'.out,hx];exact⟨rfl,(hB _).trans ((hb1.mono (by simp)).trans (hb2.mono (by have:=hb1.size;simp at this;omega)))⟩
  |some p =>
   obtain⟨d,k⟩:=p;have hcall:∀ (w1:World) p1 p2 p3 q1 q2 q3,Rep n w1 p1 p2 p3 q1 q2 q3 ty.in->Calls Tryz.prog 289 #[.agg #[.int .i64 ty.in.kind,.string ty.in.letters,.bool ty.in.op,.slice p1 p2 p3,.slice q1 q2 q3],.string t,.int .i64 j] w1 fun e w'=>e=.returned (.tuple #[.string d,.int .i64 k,.bool true])/\Below w1.heap.size w1 w':=fun w1 p1 p2 p3 q1 q2 q3 h1=>by have:=zok IH ht hn ty.in j w1 p1 q1 p2 p3 q2 q3 hj h1;rw[hx]at this;exact this
   go_enter Tryz.func238,Tryz.ntmps238
   go_wp2_with (first|(go_at_call 194;refine(hin _).mono ?_;rintro e w1 ⟨p1,p2,p3,q1,q2,q3,rfl,hr1,hb1⟩)|(go_at_call 289;refine(hcall _ _ _ _ _ _ _ hr1).mono ?_;rintro e w2 ⟨rfl,hb2⟩))
   go_ret3
   rw[hr'.out,hx];exact⟨rfl,(hB _).trans ((hb1.mono (by simp)).trans (hb2.mono (by have:=hb1.size;simp at this;omega)))⟩
 have h91':((ty.kind:Int) == 91)=false:=by simp;omega
 by_cases h63:ty.kind=63
 ·have h63':((ty.kind:Int) == 63)=true:=by simp[h63]
  have hr':Hid (enc false t (n+1) ty j=zbq (enc false t n ty.in) t j):=by show _=_;rw[enc,if_neg h105,if_neg h108,if_neg h115,if_neg h60,if_neg h91,if_pos h63]
  have hne:ty.inner≠[]:=hr.2.2.2.1.1 (by omega);have hin:=fun o=>zei n (w.alloc o) ai af li ci lf cf ty (hr.keep (hB o)) hne;clear h105 h108 h115 h60 h91 h63 hr hlf;cases hx:zbq (enc false t n ty.in) t j with
  |none =>
   have hcall:∀ (w1:World) p1 p2 p3 q1 q2 q3,Rep n w1 p1 p2 p3 q1 q2 q3 ty.in->Calls Tryz.prog 290 #[.agg #[.int .i64 ty.in.kind,.string ty.in.letters,.bool ty.in.op,.slice p1 p2 p3,.slice q1 q2 q3],.string t,.int .i64 j] w1 fun e w'=>e=.returned (.tuple #[.string xe,.int .i64 j,.bool false])/\Below w1.heap.size w1 w':=fun w1 p1 p2 p3 q1 q2 q3 h1=>by have:=zol IH ht hn ty.in j w1 p1 q1 p2 p3 q2 q3 hj h1;rw[hx]at this;exact this
   go_enter Tryz.func238,Tryz.ntmps238
   go_wp2_with (first|(go_at_call 194;refine(hin _).mono ?_;rintro e w1 ⟨p1,p2,p3,q1,q2,q3,rfl,hr1,hb1⟩)|(go_at_call 290;refine(hcall _ _ _ _ _ _ _ hr1).mono ?_;rintro e w2 ⟨rfl,hb2⟩))
   go_ret3
   rw[hr'.out,hx];exact⟨rfl,(hB _).trans ((hb1.mono (by simp)).trans (hb2.mono (by have:=hb1.size;simp at this;omega)))⟩
  |some p =>
   obtain⟨d,k⟩:=p;have hcall:∀ (w1:World) p1 p2 p3 q1 q2 q3,Rep n w1 p1 p2 p3 q1 q2 q3 ty.in->Calls Tryz.prog 290 #[.agg #[.int .i64 ty.in.kind,.string ty.in.letters,.bool ty.in.op,.slice p1 p2 p3,.slice q1 q2 q3],.string t,.int .i64 j] w1 fun e w'=>e=.returned (.tuple #[.string d,.int .i64 k,.bool true])/\Below w1.heap.size w1 w':=fun w1 p1 p2 p3 q1 q2 q3 h1=>by have:=zol IH ht hn ty.in j w1 p1 q1 p2 p3 q2 q3 hj h1;rw[hx]at this;exact this
   go_enter Tryz.func238,Tryz.ntmps238
   go_wp2_with (first|(go_at_call 194;refine(hin _).mono ?_;rintro e w1 ⟨p1,p2,p3,q1,q2,q3,rfl,hr1,hb1⟩)|(go_at_call 290;refine(hcall _ _ _ _ _ _ _ hr1).mono ?_;rintro e w2 ⟨rfl,hb2⟩))
   go_ret3
   rw[hr'.out,hx];exact⟨rfl,(hB _).trans ((hb1.mono (by simp)).trans (hb2.mono (by have:=hb1.size;simp at this;omega)))⟩
 have h63':((ty.kind:Int) == 63)=false:=by simp;omega
 by_cases h123:ty.kind=123
 ·have h123':((ty.kind:Int) == 123)=true:=by simp[h123]
  have hr':Hid (enc false t (n+1) ty j=za0 (enc false t n) t ty.fields 123 j xe):=by show _=_;rw[enc,if_neg h105,if_neg h108,if_neg h115,if_neg h60,if_neg h91,if_neg h63,if_pos h123]
  obtain⟨hl1,hl2,hl3⟩:=hlf;have hrf:=fun o=>(hr.keep (hB o)).flds.2.2;clear h105 h108 h115 h60 h91 h63 h123 hr hl3;cases hx:za0 (enc false t n) t ty.fields 123 j xe with
  |none =>
   have hcall:∀ o,Calls Tryz.prog 291 #[.slice af lf cf,.string t,.int .i64 j] (w.alloc o) fun e w'=>e=.returned (.tuple #[.string xe,.int .i64 j,.bool false])/\Below (w.alloc o).heap.size (w.alloc o) w':=fun o=>by have:=zom IH ht hn ty.fields j (w.alloc o) af lf cf hj hl1 hl2 (hrf o);rw[hx]at this;exact this
   clear hl1 hl2 hrf
   go_enter Tryz.func238,Tryz.ntmps238
   go_wp2_with (go_at_call 291;refine(hcall _).mono ?_;rintro e w' ⟨rfl,hbw⟩)
   go_ret3
   rw[hr'.out,hx];exact⟨rfl,(hB _).trans (hbw.mono (by simp))⟩
  |some p =>
   obtain⟨d,k⟩:=p;have hcall:∀ o,Calls Tryz.prog 291 #[.slice af lf cf,.string t,.int .i64 j] (w.alloc o) fun e w'=>e=.returned (.tuple #[.string d,.int .i64 k,.bool true])/\Below (w.alloc o).heap.size (w.alloc o) w':=fun o=>by have:=zom IH ht hn ty.fields j (w.alloc o) af lf cf hj hl1 hl2 (hrf o);rw[hx]at this;exact this
   clear hl1 hl2 hrf
   go_enter Tryz.func238,Tryz.ntmps238
   go_wp2_with (go_at_call 291;refine(hcall _).mono ?_;rintro e w' ⟨rfl,hbw⟩)
   go_ret3
   rw[hr'.out,hx];exact⟨rfl,(hB _).trans (hbw.mono (by simp))⟩
 have h123':((ty.kind:Int) == 123)=false:=by simp;omega
 have hr':Hid (enc false t (n+1) ty j=none):=by show _=_;rw[enc,if_neg h105,if_neg h108,if_neg h115,if_neg h60,if_neg h91,if_neg h63,if_neg h123]
 clear h105 h108 h115 h60 h91 h63 h123 hr hlf
 go_enter Tryz.func238,Tryz.ntmps238
 go_wp2_with fail
 go_ret3
 rw[hr'.out];exact⟨rfl,hB _⟩
theorem zkc {t:ByteArray}(ht:t.size<=4096):∀ n,n<=101->EncAtOK n t
 |0,_=>fun _ _ _ _ _ _ _ _ _ _ h=>h.elim
 |n+1,hn=>zwi (zkc ht n (by omega)) ht (by omega)
def RepB (S:Nat->Prop):Nat->World->Option Addr->Nat->Nat->Option Addr->Nat->Nat->Ty->Prop
 |0,_,_,_,_,_,_,_,_=>False
 |n+1,w,ai,li,ci,af,lf,cf,ty=>ty.letters.size<=8/\ty.fields.length<=9000000/\lf=ty.fields.length/\((ty.kind=91\/ty.kind=63->ty.inner≠[])/\(ty.kind=123->ty.fields≠[])) /\
   ((ty.inner=[]/\ai=none/\li=0/\ci=0) \/
    ∃ t b p1 p2 p3 q1 q2 q3,S b/\ty.inner=[t]/\ai=some ⟨b,0,none⟩/\li=1/\RepB S n w p1 p2 p3 q1 q2 q3 t /\
     w.cell? ⟨b,0,none⟩=some (.int .i64 t.kind)/\w.cell? ⟨b,1,none⟩=some (.string t.letters)/\w.cell? ⟨b,2,none⟩=some (.bool t.op)/\w.cell? ⟨b,3,none⟩=some (.slice p1 p2 p3)/\w.cell? ⟨b,4,none⟩=some (.slice q1 q2 q3)) /\
   ((ty.fields=[]/\af=none/\lf=0/\cf=0) \/
    ∃ g,S g/\ty.fields≠[]/\af=some ⟨g,0,none⟩ /\
     ∀ i f,ty.fields[i]?=some f->∃ p1 p2 p3 q1 q2 q3,RepB S n w p1 p2 p3 q1 q2 q3 f.2.1/\w.cell? ⟨g,i*7,none⟩=some (.int .i64 f.1) /\
      w.cell? ⟨g,i*7+1,none⟩=some (.int .i64 f.2.1.kind)/\w.cell? ⟨g,i*7+2,none⟩=some (.string f.2.1.letters)/\w.cell? ⟨g,i*7+3,none⟩=some (.bool f.2.1.op)/\w.cell? ⟨g,i*7+4,none⟩=some (.slice p1 p2 p3)/\w.cell? ⟨g,i*7+5,none⟩=some (.slice q1 q2 q3) /\
      w.cell? ⟨g,i*7+6,none⟩=some (.string f.2.2))
theorem RepB.keep {S:Nat->Prop}{w w':World}(hb:∀ b o v,S b->w.cell? ⟨b,o,none⟩=some v->w'.cell? ⟨b,o,none⟩=some v):∀ {n:Nat} {ai af:Option Addr} {li ci lf cf:Nat} {ty:Ty},RepB S n w ai li ci af lf cf ty->RepB S n w' ai li ci af lf cf ty
 |0,_,_,_,_,_,_,_,h=>h
 |n+1,ai,af,li,ci,lf,cf,ty,h=>by
  obtain⟨hl,hn,hlf,hk,hi,hf⟩:=h;refine⟨hl,hn,hlf,hk,?_,?_⟩
  ·rcases hi with hi|⟨t,b,p1,p2,p3,q1,q2,q3,h0,h1,h2,h2',h3,k0,k1,k2,k3,k4⟩
   ·exact .inl hi
   ·exact .inr ⟨t,b,p1,p2,p3,q1,q2,q3,h0,h1,h2,h2',RepB.keep hb h3,hb _ _ _ h0 k0,hb _ _ _ h0 k1,hb _ _ _ h0 k2,hb _ _ _ h0 k3,hb _ _ _ h0 k4⟩
  ·rcases hf with hf|⟨g,h0,h0',h1,h2⟩
   ·exact .inl hf
   ·refine .inr ⟨g,h0,h0',h1,fun i f hi=>?_⟩;obtain⟨p1,p2,p3,q1,q2,q3,h3,k0,k1,k2,k3,k4,k5,k6⟩:=h2 i f hi;exact⟨p1,p2,p3,q1,q2,q3,RepB.keep hb h3,hb _ _ _ h0 k0,hb _ _ _ h0 k1,hb _ _ _ h0 k2,hb _ _ _ h0 k3,hb _ _ _ h0 k4,hb _ _ _ h0 k5,hb _ _ _ h0 k6⟩
theorem RepB.imp {S S':Nat->Prop}{w:World}(hS:∀ b,b<w.heap.size->S b->S' b):∀ {n:Nat} {ai af:Option Addr} {li ci lf cf:Nat} {ty:Ty},RepB S n w ai li ci af lf cf ty->RepB S' n w ai li ci af lf cf ty
 |0,_,_,_,_,_,_,_,h=>h
 |n+1,ai,af,li,ci,lf,cf,ty,h=>by
  obtain⟨hl,hn,hlf,hk,hi,hf⟩:=h;refine⟨hl,hn,hlf,hk,?_,?_⟩
  ·rcases hi with hi|⟨t,b,p1,p2,p3,q1,q2,q3,h0,h1,h2,h2',h3,h4⟩
   ·exact .inl hi
   ·exact .inr ⟨t,b,p1,p2,p3,q1,q2,q3,hS b (zag h4.1) h0,h1,h2,h2',RepB.imp hS h3,h4⟩
  ·rcases hf with hf|⟨g,h0,h0',h1,h2⟩
   ·exact .inl hf
   ·have hg:g<w.heap.size:=by
     rcases hfs:ty.fields with _|⟨f,fs⟩
     ·exact absurd hfs h0'
     ·obtain⟨_,_,_,_,_,_,_,h4⟩:=h2 0 f (by rw[hfs];rfl);exact zag h4.1
    refine .inr ⟨g,hS g hg h0,h0',h1,fun i f hi=>?_⟩;obtain⟨p1,p2,p3,q1,q2,q3,h3,h4⟩:=h2 i f hi;exact⟨p1,p2,p3,q1,q2,q3,RepB.imp hS h3,h4⟩
theorem RepB.rep {S:Nat->Prop}{w:World}:∀ {n:Nat} {ai af:Option Addr} {li ci lf cf:Nat} {ty:Ty},RepB S n w ai li ci af lf cf ty->Rep n w ai li ci af lf cf ty
 |0,_,_,_,_,_,_,_,h=>h
 |n+1,ai,af,li,ci,lf,cf,ty,h=>by
  obtain⟨hl,hn,hlf,hk,hi,hf⟩:=h;refine⟨hl,hn,hlf,hk,?_,?_⟩
  ·rcases hi with hi|⟨t,b,p1,p2,p3,q1,q2,q3,h0,h1,h2,h2',h3,h4⟩
   ·exact .inl hi
   ·exact .inr ⟨t,b,p1,p2,p3,q1,q2,q3,h1,h2,h2',RepB.rep h3,h4⟩
  ·rcases hf with hf|⟨g,h0,h0',h1,h2⟩
   ·exact .inl hf
   ·refine .inr ⟨g,h1,fun i f hi=>?_⟩;obtain⟨p1,p2,p3,q1,q2,q3,h3,h4⟩:=h2 i f hi;exact⟨p1,p2,p3,q1,q2,q3,RepB.rep h3,h4⟩
theorem zer {w:World}{b o p q:Nat}{v u:Value}(h:w.cell? ⟨b,o,none⟩=some v)(hne:b≠p):(w.setCell ⟨p,q,none⟩ u).cell? ⟨b,o,none⟩=some v:=by
 rw[xv (w:=w) (Below.heap_setCell w _ _ _ hne)];exact h
theorem zah {w:World}{b o:Nat}{v:Value}(x:Obj)(h:w.cell? ⟨b,o,none⟩=some v):(w.alloc x).cell? ⟨b,o,none⟩=some v:=by
 rw[xv (w:=w) (Below.heap_alloc w _ _ (zag h))];exact h
theorem zam {w:World}{cs:Array Value}{T:TypeId}{b o:Nat}{v:Value}(hb:w.heap.size=b)(hv:cs[o]?=some v):(w.alloc (.cells cs T)).cell? ⟨b,o,none⟩=some v:=by
 subst hb;rw[cell_of_row _ _ _ cs T _ (heap_alloc_new w _)];exact hv
theorem zb5 (w:World)(o:Obj):(w.alloc o).heap.size=w.heap.size+1:=by simp
theorem zrz {w:World}{p:Nat}{v0 v1 v2 v3 v4:Value}:(((((w.setCell ⟨p,0,none⟩ v0).setCell ⟨p,1,none⟩ v1).setCell ⟨p,2,none⟩ v2).setCell ⟨p,3,none⟩ v3).setCell ⟨p,4,none⟩ v4).heap.size=w.heap.size:=by
 simp[World.setCell]
theorem Below.alloc' {a w:World}(h:Below a.heap.size a w)(o:Obj):Below a.heap.size a (w.alloc o):=h.alloc h.size o
theorem Below.set5 {a w:World}(h:Below a.heap.size a w){p:Nat}(hp:a.heap.size<=p){v0 v1 v2 v3 v4:Value}:Below a.heap.size a (((((w.setCell ⟨p,0,none⟩ v0).setCell ⟨p,1,none⟩ v1).setCell ⟨p,2,none⟩ v2).setCell ⟨p,3,none⟩ v3).setCell ⟨p,4,none⟩ v4) :=
 ((((h.setCell hp v0).setCell hp v1).setCell hp v2).setCell hp v3).setCell hp v4
theorem zco {w:World}{b o p:Nat}{v v0 v1 v2 v3 v4:Value}(h:w.cell? ⟨b,o,none⟩=some v)(hne:b≠p):(((((w.setCell ⟨p,0,none⟩ v0).setCell ⟨p,1,none⟩ v1).setCell ⟨p,2,none⟩ v2).setCell ⟨p,3,none⟩ v3).setCell ⟨p,4,none⟩ v4).cell? ⟨b,o,none⟩=some v :=
 zer (zer (zer (zer (zer h hne) hne) hne) hne) hne
def PRet (B n:Nat)(r:Option (Ty×Nat))(e:Ending)(w':World):Prop :=
 match r with
 |some (ty,k)=>∃ ai li ci af lf cf,e=.returned (.tuple #[.agg #[.int .i64 ty.kind,.string ty.letters,.bool ty.op,.slice ai li ci,.slice af lf cf],.int .i64 k,.bool true])/\RepB (fun b=>B<=b) n w' ai li ci af lf cf ty
 |none=>∃ k':Nat,e=.returned (.tuple #[.agg #[.int .i64 0,.string xe,.bool false,.slice none 0 0,.slice none 0 0],.int .i64 k',.bool false])
def ParseTypeOK (n:Nat)(s:ByteArray):Prop:=∀ (i:Nat) (w:World),i<=s.size->s.size<=i+n ->
 Calls Tryz.prog 226 #[.string s,.int .i64 i] w fun e w'=>PRet w.heap.size n (zae false s n i) e w'/\Below w.heap.size w w'
theorem ParseTypeOK.no {n:Nat}{s:ByteArray}(IH:ParseTypeOK n s){i:Nat}(w:World)(hi:i<=s.size)(hn:s.size<=i+n)(hx:zae false s n i=none) :
 Calls Tryz.prog 226 #[.string s,.int .i64 i] w fun e w'=>∃ k':Nat,e=.returned (.tuple #[.agg #[.int .i64 0,.string xe,.bool false,.slice none 0 0,.slice none 0 0],.int .i64 k',.bool false])/\Below w.heap.size w w':=by
 refine(IH i w hi hn).mono ?_;rintro e w' ⟨h1,h2⟩;rw[hx]at h1;obtain⟨k',h1⟩:=h1;exact⟨k',h1,h2⟩
theorem ParseTypeOK.yes {n:Nat}{s:ByteArray}(IH:ParseTypeOK n s){i:Nat}(w:World)(hi:i<=s.size)(hn:s.size<=i+n){ty:Ty}{k:Nat}(hx:zae false s n i=some (ty,k)) :
 Calls Tryz.prog 226 #[.string s,.int .i64 i] w fun e w'=>∃ ai li ci af lf cf,e=.returned (.tuple #[.agg #[.int .i64 ty.kind,.string ty.letters,.bool ty.op,.slice ai li ci,.slice af lf cf],.int .i64 k,.bool true])/\RepB (fun b=>w.heap.size<=b) n w' ai li ci af lf cf ty/\Below w.heap.size w w':=by
 refine(IH i w hi hn).mono ?_;rintro e w' ⟨h1,h2⟩;rw[hx]at h1;obtain⟨ai,li,ci,af,lf,cf,h1,h3⟩:=h1;exact⟨ai,li,ci,af,lf,cf,h1,h3,h2⟩
theorem zh7 (s:ByteArray)(a:Nat):∀ m e,e<=lEnd s a m e/\lEnd s a m e<=e+m
 |0,e=>by simp[lEnd]
 |m+1,e=>by
  rw[lEnd];split
  ·have:=zh7 s a m (e+1);omega
  ·omega
theorem zz0 {n:Nat}{s:ByteArray}(IH:ParseTypeOK n s)(hs:s.size<=4096)(a:Nat)(w:World)(ha:a<=s.size)(hn:s.size<=a+n)(hbd:∀ ty k,zae false s n a=some (ty,k)->k<=s.size) :
  Calls Tryz.prog 278 #[.string s,.int .i64 a] w fun e w'=>PRet w.heap.size (n+1) (zcd (zae false s n) s a) e w'/\Below w.heap.size w w':=by
 have _hs:s.size<=9000000:=by omega
 have hB:∀ o,Below w.heap.size w (w.alloc o):=fun o=>(Below.refl _ _).alloc (xf _) _;cases hx:zae false s n a with
 |none =>
  have hr':Hid (zcd (zae false s n) s a=none):=by show _=_;unfold zcd;rw[hx]
  have hcall:=fun w=>IH.no w ha hn hx;clear hx hbd
  go_enter Tryz.func278,Tryz.ntmps278
  go_wp2_with (go_at_call 226;refine(hcall _).mono ?_;rintro e w1 ⟨k',rfl,hb1⟩;obtain⟨hc1,hf1⟩:=zap hb1;have hz1:w.heap.size<w1.heap.size:=(by have:=hb1.size;simp at this;omega))
  refine bodyPost_ret (v:=.tuple #[.agg #[.int .i64 0,.string xe,.bool false,.slice none 0 0,.slice none 0 0],.int .i64 a,.bool false]) (by simp[results,Tryz.results278,go_sem,hc1,hz1];rfl) rfl ?_;rw[hr'.out];refine⟨⟨a,rfl⟩,?_⟩;have hb0:Below w.heap.size w w1:=(hB _).trans (hb1.mono (by simp));exact Below.alloc' (Below.set5 hb0 (xf _)) _
 |some p =>
  obtain⟨ty,k⟩:=p;have hk:=hbd ty k hx;have hcall:=fun w=>IH.yes w ha hn hx;by_cases h93:bAt s k=93
  ·have h93':(bAt s k != 93)=false:=by simp[h93]
   have hr':Hid (zcd (zae false s n) s a=some (⟨91,xe,false,[ty],[]⟩,k+1)):=by show _=_;unfold zcd;rw[hx];simp only[if_pos h93]
   clear hx hbd h93
   go_enter Tryz.func278,Tryz.ntmps278
   go_wp2_with (first|(go_at_call 226;refine(hcall _).mono ?_;rintro e w1 ⟨ai,li,ci,af,lf,cf,rfl,hr1,hb1⟩;obtain⟨hc1,hf1⟩:=zap hb1;have hz1:w.heap.size<w1.heap.size:=(by have:=hb1.size;simp at this;omega))|(go_at_call 245;refine(zan _ _ _ (by omega) _hs).mono ?_;rintro e w' ⟨rfl,rfl⟩))
   refine bodyPost_ret (v:=.tuple #[.agg #[.int .i64 91,.string xe,.bool false,.slice (some ⟨w1.heap.size+1,0,none⟩) 1 1,.slice none 0 0],.int .i64 (k+1:Nat),.bool true]) (by simp[results,Tryz.results278,go_sem,hc1,hz1];rfl) rfl ?_;rw[hr'.out];have hb0:Below w.heap.size w w1:=(hB _).trans (hb1.mono (by simp));refine⟨⟨_,_,_,_,_,_,rfl,?_⟩,Below.alloc' (Below.alloc' (Below.set5 hb0 (xf _)) _) _⟩;have hkeep:=hr1.keep (w':=((((((w1.setCell ⟨w.heap.size,0,none⟩ (.int .i64 91)).setCell ⟨w.heap.size,1,none⟩ (.string ⟨#[]⟩)).setCell ⟨w.heap.size,2,none⟩ (.bool false)).setCell ⟨w.heap.size,3,none⟩ (.slice (some ⟨w1.heap.size+1,0,none⟩) 1 1)).setCell ⟨w.heap.size,4,none⟩ (.slice none 0 0)).alloc (.cells #[.int .i64 ty.kind,.string ty.letters,.bool ty.op,.slice ai li ci,.slice af lf cf] 201)).alloc (.cells #[.int .i64 ty.kind,.string ty.letters,.bool ty.op,.slice ai li ci,.slice af lf cf] 201))
    (fun b o v hb h=>zah _ (zah _ (zco h (by simp at hb;omega))))
   refine⟨xj _,xj _,rfl,⟨fun _=>by simp,fun h=>by simp at h⟩,.inr ⟨ty,w1.heap.size+1,ai,li,ci,af,lf,cf,(by show w.heap.size<=w1.heap.size+1;omega),rfl,rfl,rfl,hkeep.imp (fun b _ h=>by simp at h;omega),?_,?_,?_,?_,?_⟩,.inl ⟨rfl,rfl,rfl,rfl⟩⟩
   all_goals exact zam (by rw[zb5,zrz]) rfl
  ·have h93':(bAt s k != 93)=true:=by simpa using h93
   have hr':Hid (zcd (zae false s n) s a=none):=by show _=_;unfold zcd;rw[hx];simp only[if_neg h93]
   clear hx hbd h93
   go_enter Tryz.func278,Tryz.ntmps278
   go_wp2_with (first|(go_at_call 226;refine(hcall _).mono ?_;rintro e w1 ⟨ai,li,ci,af,lf,cf,rfl,hr1,hb1⟩;obtain⟨hc1,hf1⟩:=zap hb1;have hz1:w.heap.size<w1.heap.size:=(by have:=hb1.size;simp at this;omega))|(go_at_call 245;refine(zan _ _ _ (by omega) _hs).mono ?_;rintro e w' ⟨rfl,rfl⟩))
   refine bodyPost_ret (v:=.tuple #[.agg #[.int .i64 0,.string xe,.bool false,.slice none 0 0,.slice none 0 0],.int .i64 a,.bool false]) (by simp[results,Tryz.results278,go_sem,hc1,hz1];rfl) rfl ?_;rw[hr'.out];refine⟨⟨a,rfl⟩,?_⟩;have hb0:Below w.heap.size w w1:=(hB _).trans (hb1.mono (by simp));exact Below.alloc' (Below.set5 hb0 (xf _)) _
theorem zz1 {n:Nat}{s:ByteArray}(IH:ParseTypeOK n s)(hs:s.size<=4096)(a:Nat)(w:World)(ha:a<=s.size)(hn:s.size<=a+n)(hbd:∀ ty k,zae false s n a=some (ty,k)->k<=s.size) :
  Calls Tryz.prog 279 #[.string s,.int .i64 a] w fun e w'=>PRet w.heap.size (n+1) (zce (zae false s n) a) e w'/\Below w.heap.size w w':=by
 have _hs:s.size<=9000000:=by omega
 have hB:∀ o,Below w.heap.size w (w.alloc o):=fun o=>(Below.refl _ _).alloc (xf _) _;cases hx:zae false s n a with
 |none =>
  have hr':Hid (zce (zae false s n) a=none):=by show _=_;unfold zce;rw[hx]
  have hcall:=fun w=>IH.no w ha hn hx;clear hx hbd
  go_enter Tryz.func279,Tryz.ntmps279
  go_wp2_with (go_at_call 226;refine(hcall _).mono ?_;rintro e w1 ⟨k',rfl,hb1⟩;obtain⟨hc1,hf1⟩:=zap hb1;have hz1:w.heap.size<w1.heap.size:=(by have:=hb1.size;simp at this;omega))
  refine bodyPost_ret (v:=.tuple #[.agg #[.int .i64 0,.string xe,.bool false,.slice none 0 0,.slice none 0 0],.int .i64 a,.bool false]) (by simp[results,Tryz.results279,go_sem,hc1,hz1];rfl) rfl ?_;rw[hr'.out];refine⟨⟨a,rfl⟩,?_⟩;have hb0:Below w.heap.size w w1:=(hB _).trans (hb1.mono (by simp));exact Below.alloc' (Below.set5 hb0 (xf _)) _
 |some p =>
  obtain⟨ty,k⟩:=p;have hk:=hbd ty k hx;have hcall:=fun w=>IH.yes w ha hn hx;by_cases h93:¬ ty.kind=63
  ·have h93':((ty.kind:Int) == 63)=false:=by simp;omega
   have hr':Hid (zce (zae false s n) a=some (⟨63,xe,false,[ty],[]⟩,k)):=by show _=_;unfold zce;rw[hx];simp only[if_neg h93]
   clear hx hbd h93
   go_enter Tryz.func279,Tryz.ntmps279
   go_wp2_with (first|(go_at_call 226;refine(hcall _).mono ?_;rintro e w1 ⟨ai,li,ci,af,lf,cf,rfl,hr1,hb1⟩;obtain⟨hc1,hf1⟩:=zap hb1;have hz1:w.heap.size<w1.heap.size:=(by have:=hb1.size;simp at this;omega))|(go_at_call 245;refine(zan _ _ _ (by omega) _hs).mono ?_;rintro e w' ⟨rfl,rfl⟩))
   refine bodyPost_ret (v:=.tuple #[.agg #[.int .i64 63,.string xe,.bool false,.slice (some ⟨w1.heap.size+1,0,none⟩) 1 1,.slice none 0 0],.int .i64 k,.bool true]) (by simp[results,Tryz.results279,go_sem,hc1,hz1];rfl) rfl ?_;rw[hr'.out];have hb0:Below w.heap.size w w1:=(hB _).trans (hb1.mono (by simp));refine⟨⟨_,_,_,_,_,_,rfl,?_⟩,Below.alloc' (Below.alloc' (Below.set5 hb0 (xf _)) _) _⟩;have hkeep:=hr1.keep (w':=((((((w1.setCell ⟨w.heap.size,0,none⟩ (.int .i64 63)).setCell ⟨w.heap.size,1,none⟩ (.string ⟨#[]⟩)).setCell ⟨w.heap.size,2,none⟩ (.bool false)).setCell ⟨w.heap.size,3,none⟩ (.slice (some ⟨w1.heap.size+1,0,none⟩) 1 1)).setCell ⟨w.heap.size,4,none⟩ (.slice none 0 0)).alloc (.cells #[.int .i64 ty.kind,.string ty.letters,.bool ty.op,.slice ai li ci,.slice af lf cf] 201)).alloc (.cells #[.int .i64 ty.kind,.string ty.letters,.bool ty.op,.slice ai li ci,.slice af lf cf] 201))
    (fun b o v hb h=>zah _ (zah _ (zco h (by simp at hb;omega))))
   refine⟨xj _,xj _,rfl,⟨fun _=>by simp,fun h=>by simp at h⟩,.inr ⟨ty,w1.heap.size+1,ai,li,ci,af,lf,cf,(by show w.heap.size<=w1.heap.size+1;omega),rfl,rfl,rfl,hkeep.imp (fun b _ h=>by simp at h;omega),?_,?_,?_,?_,?_⟩,.inl ⟨rfl,rfl,rfl,rfl⟩⟩
   all_goals exact zam (by rw[zb5,zrz]) rfl
  ·have h93':((ty.kind:Int) == 63)=true:=by simp;omega
   have hr':Hid (zce (zae false s n) a=none):=by show _=_;unfold zce;rw[hx];simp only[if_pos (Decidable.not_not.mp h93)]
   clear hx hbd h93
   go_enter Tryz.func279,Tryz.ntmps279
   go_wp2_with (first|(go_at_call 226;refine(hcall _).mono ?_;rintro e w1 ⟨ai,li,ci,af,lf,cf,rfl,hr1,hb1⟩;obtain⟨hc1,hf1⟩:=zap hb1;have hz1:w.heap.size<w1.heap.size:=(by have:=hb1.size;simp at this;omega))|(go_at_call 245;refine(zan _ _ _ (by omega) _hs).mono ?_;rintro e w' ⟨rfl,rfl⟩))
   refine bodyPost_ret (v:=.tuple #[.agg #[.int .i64 0,.string xe,.bool false,.slice none 0 0,.slice none 0 0],.int .i64 a,.bool false]) (by simp[results,Tryz.results279,go_sem,hc1,hz1];rfl) rfl ?_;rw[hr'.out];refine⟨⟨a,rfl⟩,?_⟩;have hb0:Below w.heap.size w w1:=(hB _).trans (hb1.mono (by simp));exact Below.alloc' (Below.set5 hb0 (xf _)) _
theorem RepB.plain {S:Nat->Prop}{n:Nat}{w:World}{ty:Ty}(hl:ty.letters.size<=8)(hk:¬ (ty.kind=91\/ty.kind=63\/ty.kind=123))(hi:ty.inner=[])(hf:ty.fields=[]):RepB S (n+1) w none 0 0 none 0 0 ty :=
 ⟨hl,by rw[hf];exact xj _,by rw[hf];rfl,⟨fun h=>absurd (by omega) hk,fun h=>absurd (by omega) hk⟩,.inl ⟨hi,rfl,rfl,rfl⟩,.inl ⟨hf,rfl,rfl,rfl⟩⟩
theorem zzx (n:Nat){s:ByteArray}(hs:s.size<=4096)(a:Nat)(w:World)(ha:a<=s.size) :
  Calls Tryz.prog 277 #[.string s,.int .i64 a] w fun e w'=>PRet w.heap.size (n+1) (zb4 s a) e w'/\Below w.heap.size w w':=by
 have _hs:s.size<=9000000:=by omega
 have hB:∀ o,Below w.heap.size w (w.alloc o):=fun o=>(Below.refl _ _).alloc (xf _) _;obtain⟨E,hE⟩:∃ E,E=lEnd s a (s.size-a) a:=⟨_,rfl⟩;have hle:=zh7 s a (s.size-a) a;rw[<- hE]at hle;obtain⟨hle1,hle2⟩:=hle;have hP:zb4 s a=if E-a<1\/8<E-a then none
   else if bAt s E=43 then (if bAt s (E+1)=62 then some (⟨60,s.extract a E,true,[],[]⟩,E+2) else none)
   else if bAt s E=62 then some (⟨60,s.extract a E,false,[],[]⟩,E+1) else none:=by rw[hE];rfl
 have hend:∀ w,Calls Tryz.prog 302 #[.string s,.int .i64 a] w fun e w'=>e=.returned (.int .i64 E)/\w'=w:=fun w=>by rw[hE];exact zyc s a w _hs ha
 have hx:=size_extract s a E hle1 (by omega);have HP:Hid (zb4 s a=_):=hP;clear hE hP;by_cases h1:E-a<1\/8<E-a
 ·have hr':Hid (zb4 s a=none):=by show _=_;rw[HP.out,if_pos h1]
  clear HP;rcases h1 with h1|h1
  ·have h1':(s.extract a E).size<1:=by omega
   go_enter Tryz.func277,Tryz.ntmps277
   go_wp2_with (first|(go_at_call 245;refine(zan _ _ _ (by omega) _hs).mono ?_;rintro e w' ⟨rfl,rfl⟩)|(go_at_call 302;refine(hend _).mono ?_;rintro e w' ⟨rfl,rfl⟩)|(go_at_call 247;refine(zcq s a E _ hle1 (by omega) _hs).mono ?_;rintro e w' ⟨rfl,rfl⟩))
   refine bodyPost_ret (v:=.tuple #[.agg #[.int .i64 0,.string xe,.bool false,.slice none 0 0,.slice none 0 0],.int .i64 a,.bool false]) (by simp[results,Tryz.results277,go_sem];rfl) rfl ?_;rw[hr'.out];exact⟨⟨a,rfl⟩,hB _⟩
  ·have h1':¬ (s.extract a E).size<1:=by omega
   have h1'':8<(s.extract a E).size:=by omega
   go_enter Tryz.func277,Tryz.ntmps277
   go_wp2_with (first|(go_at_call 245;refine(zan _ _ _ (by omega) _hs).mono ?_;rintro e w' ⟨rfl,rfl⟩)|(go_at_call 302;refine(hend _).mono ?_;rintro e w' ⟨rfl,rfl⟩)|(go_at_call 247;refine(zcq s a E _ hle1 (by omega) _hs).mono ?_;rintro e w' ⟨rfl,rfl⟩))
   refine bodyPost_ret (v:=.tuple #[.agg #[.int .i64 0,.string xe,.bool false,.slice none 0 0,.slice none 0 0],.int .i64 a,.bool false]) (by simp[results,Tryz.results277,go_sem];rfl) rfl ?_;rw[hr'.out];exact⟨⟨a,rfl⟩,hB _⟩
 ·have h1':¬ (s.extract a E).size<1:=by omega
  have h1'':¬ 8<(s.extract a E).size:=by omega
  by_cases h2:bAt s E=43
  ·have h2':(bAt s E == 43)=true:=by simp[h2]
   by_cases h3:bAt s (E+1)=62
   ·have h3':(bAt s (E+1) != 62)=false:=by simp[h3]
    have hr':Hid (zb4 s a=some (⟨60,s.extract a E,true,[],[]⟩,E+2)):=by show _=_;rw[HP.out,if_neg h1,if_pos h2,if_pos h3]
    clear HP h2 h3
    go_enter Tryz.func277,Tryz.ntmps277
    go_wp2_with (first|(go_at_call 245;refine(zan _ _ _ (by omega) _hs).mono ?_;rintro e w' ⟨rfl,rfl⟩)|(go_at_call 302;refine(hend _).mono ?_;rintro e w' ⟨rfl,rfl⟩)|(go_at_call 247;refine(zcq s a E _ hle1 (by omega) _hs).mono ?_;rintro e w' ⟨rfl,rfl⟩))
    refine bodyPost_ret (v:=.tuple #[.agg #[.int .i64 60,.string (s.extract a E),.bool true,.slice none 0 0,.slice none 0 0],.int .i64 (E+2:Nat),.bool true]) (by simp[results,Tryz.results277,go_sem];try omega) rfl ?_;rw[hr'.out];exact⟨⟨_,_,_,_,_,_,rfl,RepB.plain (by show (s.extract a E).size<=8;omega) (by simp) rfl rfl⟩,hB _⟩
   ·have h3':(bAt s (E+1) != 62)=true:=by simpa using h3
    have hr':Hid (zb4 s a=none):=by show _=_;rw[HP.out,if_neg h1,if_pos h2,if_neg h3]
    clear HP h2 h3
    go_enter Tryz.func277,Tryz.ntmps277
    go_wp2_with (first|(go_at_call 245;refine(zan _ _ _ (by omega) _hs).mono ?_;rintro e w' ⟨rfl,rfl⟩)|(go_at_call 302;refine(hend _).mono ?_;rintro e w' ⟨rfl,rfl⟩)|(go_at_call 247;refine(zcq s a E _ hle1 (by omega) _hs).mono ?_;rintro e w' ⟨rfl,rfl⟩))
    refine bodyPost_ret (v:=.tuple #[.agg #[.int .i64 0,.string xe,.bool false,.slice none 0 0,.slice none 0 0],.int .i64 a,.bool false]) (by simp[results,Tryz.results277,go_sem];rfl) rfl ?_;rw[hr'.out];exact⟨⟨a,rfl⟩,hB _⟩
  ·have h2':(bAt s E == 43)=false:=by simpa using h2
   by_cases h3:bAt s E=62
   ·have h3':(bAt s E != 62)=false:=by simp[h3]
    have hr':Hid (zb4 s a=some (⟨60,s.extract a E,false,[],[]⟩,E+1)):=by show _=_;rw[HP.out,if_neg h1,if_neg h2,if_pos h3]
    clear HP h2 h3
    go_enter Tryz.func277,Tryz.ntmps277
    go_wp2_with (first|(go_at_call 245;refine(zan _ _ _ (by omega) _hs).mono ?_;rintro e w' ⟨rfl,rfl⟩)|(go_at_call 302;refine(hend _).mono ?_;rintro e w' ⟨rfl,rfl⟩)|(go_at_call 247;refine(zcq s a E _ hle1 (by omega) _hs).mono ?_;rintro e w' ⟨rfl,rfl⟩))
    refine bodyPost_ret (v:=.tuple #[.agg #[.int .i64 60,.string (s.extract a E),.bool false,.slice none 0 0,.slice none 0 0],.int .i64 (E+1:Nat),.bool true]) (by simp[results,Tryz.results277,go_sem];try omega) rfl ?_;rw[hr'.out];exact⟨⟨_,_,_,_,_,_,rfl,RepB.plain (by show (s.extract a E).size<=8;omega) (by simp) rfl rfl⟩,hB _⟩
   ·have h3':(bAt s E != 62)=true:=by simpa using h3
    have hr':Hid (zb4 s a=none):=by show _=_;rw[HP.out,if_neg h1,if_neg h2,if_neg h3]
    clear HP h2 h3
    go_enter Tryz.func277,Tryz.ntmps277
    go_wp2_with (first|(go_at_call 245;refine(zan _ _ _ (by omega) _hs).mono ?_;rintro e w' ⟨rfl,rfl⟩)|(go_at_call 302;refine(hend _).mono ?_;rintro e w' ⟨rfl,rfl⟩)|(go_at_call 247;refine(zcq s a E _ hle1 (by omega) _hs).mono ?_;rintro e w' ⟨rfl,rfl⟩))
    refine bodyPost_ret (v:=.tuple #[.agg #[.int .i64 0,.string xe,.bool false,.slice none 0 0,.slice none 0 0],.int .i64 a,.bool false]) (by simp[results,Tryz.results277,go_sem];rfl) rfl ?_;rw[hr'.out];exact⟨⟨a,rfl⟩,hB _⟩
def FRet (B n:Nat)(r:Option ((Nat×Ty×ByteArray)×Nat))(e:Ending)(w':World):Prop :=
 match r with
 |some (f,k)=>∃ ai li ci af lf cf,e=.returned (.tuple #[.agg #[.int .i64 f.1,.int .i64 f.2.1.kind,.string f.2.1.letters,.bool f.2.1.op,.slice ai li ci,.slice af lf cf,.string f.2.2],.int .i64 k,.bool true])/\RepB (fun b=>B<=b) n w' ai li ci af lf cf f.2.1
 |none=>∃ k':Nat,e=.returned (.tuple #[.agg #[.int .i64 0,.int .i64 0,.string xe,.bool false,.slice none 0 0,.slice none 0 0,.string xe],.int .i64 k',.bool false])
theorem Below.set7 {a w:World}(h:Below a.heap.size a w){p:Nat}(hp:a.heap.size<=p){v0 v1 v2 v3 v4 v5 v6:Value}:Below a.heap.size a (((((((w.setCell ⟨p,0,none⟩ v0).setCell ⟨p,1,none⟩ v1).setCell ⟨p,2,none⟩ v2).setCell ⟨p,3,none⟩ v3).setCell ⟨p,4,none⟩ v4).setCell ⟨p,5,none⟩ v5).setCell ⟨p,6,none⟩ v6) :=
 (((Below.set5 h hp).setCell hp v5).setCell hp v6)
theorem zm5 {w:World}{b o p:Nat}{v v0 v1 v2 v3 v4 v5 v6:Value}(h:w.cell? ⟨b,o,none⟩=some v)(hne:b≠p):(((((((w.setCell ⟨p,0,none⟩ v0).setCell ⟨p,1,none⟩ v1).setCell ⟨p,2,none⟩ v2).setCell ⟨p,3,none⟩ v3).setCell ⟨p,4,none⟩ v4).setCell ⟨p,5,none⟩ v5).setCell ⟨p,6,none⟩ v6).cell? ⟨b,o,none⟩=some v :=
 zer (zer (zco h hne) hne) hne
theorem zjv {w:World}{b o:Nat}{v:Value}(h:w.cell? ⟨b,o,none⟩=some v):w.drew.cell? ⟨b,o,none⟩=some v:=h
theorem zzz {n:Nat}{s:ByteArray}(IH:ParseTypeOK n s)(IE:EncAtOK n s)(hs:s.size<=4096)(i:Nat)(w:World)(hi:i<=s.size)(hn:s.size<=i+2+n)(hbd:∀ a ty k,zae false s n a=some (ty,k)->k<=s.size)
  (h1a:isL (bAt s i)=true) (h1b:bAt s (i+1)=58) {ty:Ty} {k:Nat} (hx:zae false s n (i+2)=some (ty,k)) (h2:bAt s k=61) {d:ByteArray} {m:Nat} (hy:enc false s n ty (k+1)=some (d,m)) :
  Calls Tryz.prog 303 #[.string s,.int .i64 i] w fun e w'=>FRet w.heap.size n (zar (zae false s n) (enc false s n) s i) e w'/\Below w.heap.size w w':=by
 have _hs:s.size<=9000000:=by omega
 have hB:∀ o,Below w.heap.size w (w.alloc o):=fun o=>(Below.refl _ _).alloc (xf _) _;have h1b':(bAt s (i+1) != 58)=false:=by simp[h1b]
 have hi1:i+1<s.size:=zaw (by omega);have hlet:97<=bAt s i:=by simp[isL]at h1a;omega
 have hk:=hbd _ ty k hx;have hcall:=fun w=>IH.yes w (show i+2<=s.size by omega) (by omega) hx;have h2':(bAt s k != 61)=false:=by simp[h2]
 have hk1:k<s.size:=zaw (by omega);obtain⟨hm1,hm2,hm3⟩:=zdf hy;have hr':Hid (zar (zae false s n) (enc false s n) s i=some (((bAt s i).toNat,ty,s.extract (k+1) m),m)):=by show _=_;unfold zar;rw[if_pos ⟨h1a,h1b⟩,hx];simp only[if_pos h2];rw[hy]
 have hecall:∀ (B:Nat->Prop) (w1:World) (o:Obj) ai li ci af lf cf,RepB B n w1 ai li ci af lf cf ty->Calls Tryz.prog 238 #[.agg #[.int .i64 ty.kind,.string ty.letters,.bool ty.op,.slice ai li ci,.slice af lf cf],.string s,.int .i64 (k+1:Nat)] (w1.alloc o) fun e w'=>e=.returned (.tuple #[.string d,.int .i64 m,.bool true])/\Below (w1.alloc o).heap.size (w1.alloc o) w':=fun B w1 o ai li ci af lf cf h=>IE.yes (by omega) ((h.rep).keep ((Below.refl _ _).alloc (xf _) _)) hy;clear hx hy hbd h1b h2 hm3
 go_enter Tryz.func303,Tryz.ntmps303
 go_wp2_with (first|(go_at_call 245;refine(zan _ _ _ (by omega) _hs).mono ?_;rintro e w' ⟨rfl,rfl⟩)|(go_at_call 309;refine(zd5 _ _).mono ?_;rintro e w' ⟨rfl,rfl⟩)|(go_at_call 226;refine(hcall _).mono ?_;rintro e w1 ⟨ai,li,ci,af,lf,cf,rfl,hr1,hb1⟩;obtain⟨hc1,hf1⟩:=zap hb1;have hz1:w.heap.size<w1.heap.size:=(by have:=hb1.size;simp at this;omega))|(go_at_call 238;refine(hecall _ _ _ _ _ _ _ _ _ hr1).mono ?_;rintro e w2 ⟨rfl,hb2⟩;obtain⟨hc2,hf2⟩:=zap hb2;have hz2:w1.heap.size<w2.heap.size:=(by have:=hb2.size;simp at this;omega);have hz3:w.heap.size<w1.heap.size+1:=(by omega)))
 have e0:w2.cell? ⟨w1.heap.size,0,none⟩=some (.int .i64 ty.kind):=zab hb2 (zam rfl rfl);have e1:w2.cell? ⟨w1.heap.size,1,none⟩=some (.string ty.letters):=zab hb2 (zam rfl rfl);have e2:w2.cell? ⟨w1.heap.size,2,none⟩=some (.bool ty.op):=zab hb2 (zam rfl rfl);have e3:w2.cell? ⟨w1.heap.size,3,none⟩=some (.slice ai li ci):=zab hb2 (zam rfl rfl);have e4:w2.cell? ⟨w1.heap.size,4,none⟩=some (.slice af lf cf):=zab hb2 (zam rfl rfl);have hne:w1.heap.size≠w.heap.size:=by omega
 have hne2:¬ w.heap.size=w1.heap.size:=by omega
 have hwk:IntKind.i64.wrap ((k:Int)+1)=(k:Int)+1:=by rw[IntKind.wrap_i64];omega
 go_region_held3 (fun w'=>w'.cell? ⟨w1.heap.size,0,none⟩=some (.int .i64 ty.kind)/\w'.cell? ⟨w1.heap.size,1,none⟩=some (.string ty.letters)/\w'.cell? ⟨w1.heap.size,2,none⟩=some (.bool ty.op)/\w'.cell? ⟨w1.heap.size,3,none⟩=some (.slice ai li ci)/\w'.cell? ⟨w1.heap.size,4,none⟩=some (.slice af lf cf)) (go_keep) (first|(go_at_call 247;refine(zr0 s _ _ _ (by omega) (by omega) (by omega) _hs).mono ?_;rintro e w' ⟨rfl,rfl⟩))
 go_wp2_with fail
 have hb0:Below w.heap.size w w2:=((hB _).trans (hb1.mono (by simp))).trans ((((Below.refl _ _).alloc (xf _) _).trans (hb2.mono (by simp))).mono (by omega));refine bodyPost_ret (v:=.tuple #[.agg #[.int .i64 (bAt s i),.int .i64 ty.kind,.string ty.letters,.bool ty.op,.slice ai li ci,.slice af lf cf,.string (s.extract (k+1) m)],.int .i64 m,.bool true]) (by simp[results,Tryz.results303,go_sem,hc1,hz1,hc2,hz2,hz3]) rfl ?_;rw[hr'.out];refine⟨⟨ai,li,ci,af,lf,cf,?_,?_⟩,(Below.set7 hb0 (xf _)).drew⟩
 ·rw[show (((bAt s i).toNat:Nat):Int)=bAt s i by omega]
 ·exact(hr1.keep (fun b o v hb h=>zjv (zm5 (zab hb2 (zah _ h)) (by simp at hb;omega)))).imp (fun b _ h=>by simp at h;omega)
theorem zzy {n:Nat}{s:ByteArray}(IH:ParseTypeOK n s)(IE:EncAtOK n s)(hs:s.size<=4096)(i:Nat)(w:World)(hi:i<=s.size)(hn:s.size<=i+2+n)(hbd:∀ a ty k,zae false s n a=some (ty,k)->k<=s.size) :
  Calls Tryz.prog 303 #[.string s,.int .i64 i] w fun e w'=>FRet w.heap.size n (zar (zae false s n) (enc false s n) s i) e w'/\Below w.heap.size w w':=by
 have _hs:s.size<=9000000:=by omega
 have hB:∀ o,Below w.heap.size w (w.alloc o):=fun o=>(Below.refl _ _).alloc (xf _) _;by_cases h1:isL (bAt s i)=true/\bAt s (i+1)=58
 ·obtain⟨h1a,h1b⟩:=h1;have h1b':(bAt s (i+1) != 58)=false:=by simp[h1b]
  have hi1:i+1<s.size:=zaw (by omega);have hlet:97<=bAt s i:=by simp[isL]at h1a;omega
  cases hx:zae false s n (i+2) with
  |none =>
   have hr':Hid (zar (zae false s n) (enc false s n) s i=none):=by show _=_;unfold zar;rw[if_pos ⟨h1a,h1b⟩,hx]
   have hcall:=fun w=>IH.no w (show i+2<=s.size by omega) (by omega) hx;clear hx hbd h1b
   go_enter Tryz.func303,Tryz.ntmps303
   go_wp2_with (first|(go_at_call 245;refine(zan _ _ _ (by omega) _hs).mono ?_;rintro e w' ⟨rfl,rfl⟩)|(go_at_call 309;refine(zd5 _ _).mono ?_;rintro e w' ⟨rfl,rfl⟩)|(go_at_call 226;refine(hcall _).mono ?_;rintro e w1 ⟨k',rfl,hb1⟩;obtain⟨hc1,hf1⟩:=zap hb1;have hz1:w.heap.size<w1.heap.size:=(by have:=hb1.size;simp at this;omega)))
   have hb0:Below w.heap.size w w1:=(hB _).trans (hb1.mono (by simp));refine bodyPost_ret (v:=.tuple #[.agg #[.int .i64 0,.int .i64 0,.string xe,.bool false,.slice none 0 0,.slice none 0 0,.string xe],.int .i64 i,.bool false]) (by simp[results,Tryz.results303,go_sem,hc1,hz1];rfl) rfl ?_;rw[hr'.out];exact⟨⟨i,rfl⟩,Below.alloc' (Below.set7 hb0 (xf _)) _⟩
  |some p =>
   obtain⟨ty,k⟩:=p;have hk:=hbd _ ty k hx;have hcall:=fun w=>IH.yes w (show i+2<=s.size by omega) (by omega) hx;by_cases h2:bAt s k=61
   ·have h2':(bAt s k != 61)=false:=by simp[h2]
    have hk1:k<s.size:=zaw (by omega);cases hy:enc false s n ty (k+1) with
    |none =>
     have hr':Hid (zar (zae false s n) (enc false s n) s i=none):=by show _=_;unfold zar;rw[if_pos ⟨h1a,h1b⟩,hx];simp only[if_pos h2];rw[hy]
     have hecall:∀ (B:Nat->Prop) (w1:World) (o:Obj) ai li ci af lf cf,RepB B n w1 ai li ci af lf cf ty->Calls Tryz.prog 238 #[.agg #[.int .i64 ty.kind,.string ty.letters,.bool ty.op,.slice ai li ci,.slice af lf cf],.string s,.int .i64 (k+1:Nat)] (w1.alloc o) fun e w'=>e=.returned (.tuple #[.string xe,.int .i64 (k+1:Nat),.bool false])/\Below (w1.alloc o).heap.size (w1.alloc o) w':=fun B w1 o ai li ci af lf cf h=>IE.no (by omega) ((h.rep).keep ((Below.refl _ _).alloc (xf _) _)) hy;clear hx hy hbd h1b h2
     go_enter Tryz.func303,Tryz.ntmps303
     go_wp2_with (first|(go_at_call 245;refine(zan _ _ _ (by omega) _hs).mono ?_;rintro e w' ⟨rfl,rfl⟩)|(go_at_call 309;refine(zd5 _ _).mono ?_;rintro e w' ⟨rfl,rfl⟩)|(go_at_call 226;refine(hcall _).mono ?_;rintro e w1 ⟨ai,li,ci,af,lf,cf,rfl,hr1,hb1⟩;obtain⟨hc1,hf1⟩:=zap hb1;have hz1:w.heap.size<w1.heap.size:=(by have:=hb1.size;simp at this;omega))|(go_at_call 238;refine(hecall _ _ _ _ _ _ _ _ _ hr1).mono ?_;rintro e w2 ⟨rfl,hb2⟩;obtain⟨hc2,hf2⟩:=zap hb2;have hz2:w1.heap.size<w2.heap.size:=(by have:=hb2.size;simp at this;omega);have hz3:w.heap.size<w1.heap.size+1:=(by omega)))
     have hb0:Below w.heap.size w w2:=((hB _).trans (hb1.mono (by simp))).trans ((((Below.refl _ _).alloc (xf _) _).trans (hb2.mono (by simp))).mono (by omega));refine bodyPost_ret (v:=.tuple #[.agg #[.int .i64 0,.int .i64 0,.string xe,.bool false,.slice none 0 0,.slice none 0 0,.string xe],.int .i64 i,.bool false]) (by simp[results,Tryz.results303,go_sem,hc1,hz1,hc2,hz2,hz3];rfl) rfl ?_;rw[hr'.out];exact⟨⟨i,rfl⟩,Below.set7 hb0 (xf _)⟩
    |some q =>
     obtain⟨d,m⟩:=q;exact zzz IH IE hs i w hi hn hbd h1a h1b hx h2 hy
   ·have h2':(bAt s k != 61)=true:=by simpa using h2
    have hr':Hid (zar (zae false s n) (enc false s n) s i=some (((bAt s i).toNat,ty,xe),k)):=by show _=_;unfold zar;rw[if_pos ⟨h1a,h1b⟩,hx];simp only[if_neg h2]
    clear hx hbd h1b h2
    go_enter Tryz.func303,Tryz.ntmps303
    go_wp2_with (first|(go_at_call 245;refine(zan _ _ _ (by omega) _hs).mono ?_;rintro e w' ⟨rfl,rfl⟩)|(go_at_call 309;refine(zd5 _ _).mono ?_;rintro e w' ⟨rfl,rfl⟩)|(go_at_call 226;refine(hcall _).mono ?_;rintro e w1 ⟨ai,li,ci,af,lf,cf,rfl,hr1,hb1⟩;obtain⟨hc1,hf1⟩:=zap hb1;have hz1:w.heap.size<w1.heap.size:=(by have:=hb1.size;simp at this;omega)))
    have hb0:Below w.heap.size w w1:=(hB _).trans (hb1.mono (by simp));refine bodyPost_ret (v:=.tuple #[.agg #[.int .i64 (bAt s i),.int .i64 ty.kind,.string ty.letters,.bool ty.op,.slice ai li ci,.slice af lf cf,.string xe],.int .i64 k,.bool true]) (by simp[results,Tryz.results303,go_sem,hc1,hz1];rfl) rfl ?_;rw[hr'.out];refine⟨⟨ai,li,ci,af,lf,cf,?_,?_⟩,Below.alloc' (Below.set7 hb0 (xf _)) _⟩
    ·rw[show (((bAt s i).toNat:Nat):Int)=bAt s i by omega]
    ·exact(hr1.keep (fun b o v hb h=>zah _ (zm5 h (by simp at hb;omega)))).imp (fun b _ h=>by simp at h;omega)
 ·rw[show zar (zae false s n) (enc false s n) s i=none by unfold zar;rw[if_neg h1]];cases hl:isL (bAt s i) with
  |false =>
   go_enter Tryz.func303,Tryz.ntmps303
   go_wp2_with (first|(go_at_call 245;refine(zan _ _ _ (by omega) _hs).mono ?_;rintro e w' ⟨rfl,rfl⟩)|(go_at_call 309;refine(zd5 _ _).mono ?_;rintro e w' ⟨rfl,rfl⟩))
   exact bodyPost_ret (v:=.tuple #[.agg #[.int .i64 0,.int .i64 0,.string xe,.bool false,.slice none 0 0,.slice none 0 0,.string xe],.int .i64 i,.bool false]) (by simp[results,Tryz.results303,go_sem];rfl) rfl ⟨⟨i,rfl⟩,hB _⟩
  |true =>
   have h2':(bAt s (i+1) != 58)=true:=by simp;exact fun h=>h1 ⟨hl,h⟩
   clear h1
   go_enter Tryz.func303,Tryz.ntmps303
   go_wp2_with (first|(go_at_call 245;refine(zan _ _ _ (by omega) _hs).mono ?_;rintro e w' ⟨rfl,rfl⟩)|(go_at_call 309;refine(zd5 _ _).mono ?_;rintro e w' ⟨rfl,rfl⟩))
   exact bodyPost_ret (v:=.tuple #[.agg #[.int .i64 0,.int .i64 0,.string xe,.bool false,.slice none 0 0,.slice none 0 0,.string xe],.int .i64 i,.bool false]) (by simp[results,Tryz.results303,go_sem];rfl) rfl ⟨⟨i,rfl⟩,hB _⟩
def RowOf (S:Nat->Prop)(n:Nat)(w:World)(xs:List Value)(fs:List (Nat×Ty×ByteArray)):Prop :=
 xs.length=fs.length*7/\∀ i f,fs[i]?=some f->∃ p1 p2 p3 q1 q2 q3,RepB S n w p1 p2 p3 q1 q2 q3 f.2.1/\xs[i*7]?=some (.int .i64 f.1) /\
      xs[i*7+1]?=some (.int .i64 f.2.1.kind)/\xs[i*7+2]?=some (.string f.2.1.letters)/\xs[i*7+3]?=some (.bool f.2.1.op)/\xs[i*7+4]?=some (.slice p1 p2 p3)/\xs[i*7+5]?=some (.slice q1 q2 q3) /\
      xs[i*7+6]?=some (.string f.2.2)
theorem RowOf.keep {S:Nat->Prop}{n:Nat}{w w':World}{xs:List Value}{fs:List (Nat×Ty×ByteArray)}(h:RowOf S n w xs fs)(hb:∀ b o v,S b->w.cell? ⟨b,o,none⟩=some v->w'.cell? ⟨b,o,none⟩=some v):RowOf S n w' xs fs :=
 ⟨h.1,fun i f hi=>by obtain⟨p1,p2,p3,q1,q2,q3,h1,h2⟩:=h.2 i f hi;exact⟨p1,p2,p3,q1,q2,q3,h1.keep hb,h2⟩⟩
theorem RowOf.imp {S S':Nat->Prop}{n:Nat}{w:World}{xs:List Value}{fs:List (Nat×Ty×ByteArray)}(h:RowOf S n w xs fs)(hS:∀ b,b<w.heap.size->S b->S' b):RowOf S' n w xs fs :=
 ⟨h.1,fun i f hi=>by obtain⟨p1,p2,p3,q1,q2,q3,h1,h2⟩:=h.2 i f hi;exact⟨p1,p2,p3,q1,q2,q3,h1.imp hS,h2⟩⟩
theorem RowOf.nil {S:Nat->Prop}{n:Nat}{w:World}:RowOf S n w [] []:=⟨rfl,fun i f hi=>by simp at hi⟩
theorem RowOf.snoc {S:Nat->Prop}{n:Nat}{w:World}{xs:List Value}{fs:List (Nat×Ty×ByteArray)}(h:RowOf S n w xs fs){f:Nat×Ty×ByteArray}{p1 q1:Option Addr}{p2 p3 q2 q3:Nat}(hr:RepB S n w p1 p2 p3 q1 q2 q3 f.2.1) :
  RowOf S n w (xs++[.int .i64 f.1,.int .i64 f.2.1.kind,.string f.2.1.letters,.bool f.2.1.op,.slice p1 p2 p3,.slice q1 q2 q3,.string f.2.2]) (fs++[f]):=by
 refine⟨by simp[h.1];omega,fun i g hi=>?_⟩;by_cases hl:i<fs.length
 ·rw[xg hl]at hi;obtain⟨a1,a2,a3,b1,b2,b3,h1,h2⟩:=h.2 i g hi;have hx:=h.1;refine⟨a1,a2,a3,b1,b2,b3,h1,?_⟩;rw[xg (by omega),xg (by omega),xg (by omega),xg (by omega),xg (by omega),xg (by omega),xg (by omega)];exact h2
 ·rw[xq (by omega)]at hi;obtain rfl:i=fs.length:=by
   rcases Nat.eq_or_lt_of_le (Nat.le_of_not_lt hl)with h|h
   ·exact h.symm
   ·rw[xo (by simp;omega)]at hi;cases hi
  simp at hi;subst hi;have hx:=h.1;refine⟨p1,p2,p3,q1,q2,q3,hr,?_⟩;rw[<- hx];refine⟨?_,?_,?_,?_,?_,?_,?_⟩<;>(rw[xq (by omega)];simp)
theorem zbm {w:World}{base:Nat}{e:TypeId}{size:Nat}{g n cap:Nat}{xs:List Value}(h:w.ownsRow base e size (.slice (some ⟨g,0,none⟩) n cap) n xs){i:Nat}{v:Value}(hi:xs[i]?=some v):w.cell? ⟨g,i,none⟩=some v:=by
 obtain⟨hl,h|⟨g',cap',cur,hv,hb,hh,hc,hm,hs,ht⟩⟩:=h
 ·obtain⟨h,_⟩:=h;cases h
 ·cases hv;rw[cell_of_row w g i cur e (0,0) hh];rw[<- ht,List.getElem?_take]at hi;split at hi
  ·simpa using hi
  ·cases hi
def hasL (fs:List (Nat×Ty×ByteArray))(c:Nat):Bool:=fs.any (fun g=>g.1 == c)
def plF (fs:List (Nat×Ty×ByteArray))(c:Nat):Int:=match fs.findIdx? (fun g=>g.1 == c) with|some i=>(i:Nat)|none=>-1
theorem zqp (fs:List (Nat×Ty×ByteArray))(c:Nat)(h:∀ (i:Nat) (f:Nat×Ty×ByteArray),fs[i]?=some f->f.1≠c):plF fs c=-1:=by
 have:fs.findIdx? (fun g=>g.1 == c)=none:=by
  rw[xu];intro f hf;obtain⟨i,hi,rfl⟩:=List.getElem_of_mem hf;have:=h i _ (xh hi);simpa using this
 unfold plF;rw[this]
theorem yaah (fs:List (Nat×Ty×ByteArray))(c i:Nat)(f:Nat×Ty×ByteArray)(h:fs[i]?=some f)(hf:f.1=c)(hn:∀ (k:Nat) (f:Nat×Ty×ByteArray),k<i->fs[k]?=some f->f.1≠c):plF fs c=(i:Nat):=by
 have:fs.findIdx? (fun g=>g.1 == c)=some i:=by
  rw[xm];have hl:i<fs.length:=by
   rcases xz i fs.length with h'|h'
   ·exact h'
   ·rw[xo h']at h;cases h
  refine⟨hl,?_,fun j hj=>?_⟩
  ·rw[xh hl]at h;cases h;simpa using hf
  ·have:=hn j _ hj (xh (by omega));simpa using this
 unfold plF;rw[this]
theorem yaaf (fs:List (Nat×Ty×ByteArray))(c:Nat)(h:hasL fs c=false):plF fs c=-1:=by
 refine zqp fs c (fun i f hi=>?_);unfold hasL at h;rw[List.any_eq_false]at h;have:=h f (List.mem_of_getElem? hi);simpa using this
theorem yaai (fs:List (Nat×Ty×ByteArray))(c:Nat)(h:hasL fs c=true):∃ p:Nat,plF fs c=(p:Nat)/\p<fs.length:=by
 unfold plF;cases hx:fs.findIdx? (fun g=>g.1 == c) with
 |none =>
  rw[xu]at hx;unfold hasL at h;rw[List.any_eq_true]at h;obtain⟨f,hf,hf'⟩:=h;have:=hx f hf;rw[this]at hf';cases hf'
 |some i =>
  rw[xm]at hx;exact⟨i,rfl,hx.1⟩
theorem zk6 (fs:List (Nat×Ty×ByteArray))(c:Nat)(w:World)(g cap:Nat)(hfl:fs.length<=9000000)
  (hcells:∀ i f,fs[i]?=some f->∃ p1 p2 p3 q1 q2 q3,w.cell? ⟨g,i*7,none⟩=some (.int .i64 f.1)/\w.cell? ⟨g,i*7+1,none⟩=some (.int .i64 f.2.1.kind)/\w.cell? ⟨g,i*7+2,none⟩=some (.string f.2.1.letters)/\w.cell? ⟨g,i*7+3,none⟩=some (.bool f.2.1.op)/\w.cell? ⟨g,i*7+4,none⟩=some (.slice p1 p2 p3)/\w.cell? ⟨g,i*7+5,none⟩=some (.slice q1 q2 q3)/\w.cell? ⟨g,i*7+6,none⟩=some (.string f.2.2)) :
  Calls Tryz.prog 284 #[.slice (some ⟨g,0,none⟩) fs.length cap,.int .i64 c] w fun e w'=>e=.returned (.int .i64 (plF fs c))/\Below w.heap.size w w':=by
 go_enter Tryz.func284,Tryz.ntmps284
 go_wp2_with fail
 go_loopw [9] (fun vi wr=>∃ i:Nat,i<=fs.length/\vi=.int .i64 i/\Hid (∀ (k:Nat) (f:Nat×Ty×ByteArray),k<i->fs[k]?=some f->f.1≠c)/\Below w.heap.size w wr) (fun i _=>fs.length-(intOf i).toNat)
 case atStart=>exact⟨0,xj _,rfl,fun k f hk=>by omega,Below.refl _ _⟩
 case round =>
  obtain⟨i,hi,rfl,hno,hb⟩:=hrel;by_cases hlt:i<fs.length
  ·obtain⟨f,hf⟩:∃ f,fs[i]?=some f:=⟨fs[i],xh hlt⟩;obtain⟨p1,p2,p3,q1,q2,q3,k0,k1,k2,k3,k4,k5,k6⟩:=hcells i f hf;have k0:=zab hb k0;have k1:=zab hb k1;have k2:=zab hb k2;have k3:=zab hb k3;have k4:=zab hb k4;have k5:=zab hb k5;have k6:=zab hb k6;have hg':g<wr.heap.size:=zag k0;have HF:Hid (fs[i]?=some f):=hf;clear hf hcells;by_cases hc:f.1=c
   ·have hc':((f.1:Int) == (c:Int))=true:=by simp;omega
    have HC:Hid (f.1=c):=hc;clear hc
    go_wp2_with fail
    go_ret;rw[yaah fs c i f HF.out HC.out hno.out];exact⟨rfl,hb.alloc hb.size _⟩
   ·have hc':((f.1:Int) == (c:Int))=false:=by simp;omega
    go_wp2_with fail
    go_roundw
    case rel =>
     refine⟨i+1,by omega,by go_num,?_,hb.alloc hb.size _⟩;intro k h hk hh;by_cases e:k=i
     ·subst e;rw[HF.out]at hh;cases hh;exact hc
     ·exact hno.out k h (by omega) hh
    case measure=>simp[intOf];omega
  ·go_wp2_with fail
   go_ret;rw[zqp fs c (fun k f hf=>hno.out k f (by
    rcases xz k fs.length with h|h
    ·omega
    ·rw[xo h]at hf;cases hf) hf)]
   exact⟨rfl,hb⟩
theorem zas {w w':World}{base:Nat}{e:TypeId}{size:Nat}{v:Value}{n:Nat}{xs:List Value}(h:w.ownsRow base e size v n xs)(hb:Below w.heap.size w w'):w'.ownsRow base e size v n xs :=
 h.kept (row:=none) ⟨hb.os,hb.tape,hb.output,hb.size,fun k hk _=>hb.block k hk⟩ (by cases v.ownBlock<;>simp)
theorem Tryz.infoField:(Tryz.prog.info? 315).map (fun i=>(i.zero,i.size,i.bytes))=some (some (.agg #[.int .i64 0,.int .i64 0,.string ⟨#[]⟩,.bool false,.slice none 0 0,.slice none 0 0,.string ⟨#[]⟩]),7,104):=by kernel_rfl
def FieldOK (n:Nat)(s:ByteArray):Prop:=∀ (i:Nat) (w:World),i<=s.size->s.size<=i+2+n ->
 Calls Tryz.prog 303 #[.string s,.int .i64 i] w fun e w'=>FRet w.heap.size n (zar (zae false s n) (enc false s n) s i) e w'/\Below w.heap.size w w'
theorem FieldOK.no {n:Nat}{s:ByteArray}(IH:FieldOK n s){i:Nat}(w:World)(hi:i<=s.size)(hn:s.size<=i+2+n)(hx:zar (zae false s n) (enc false s n) s i=none) :
 Calls Tryz.prog 303 #[.string s,.int .i64 i] w fun e w'=>∃ k':Nat,e=.returned (.tuple #[.agg #[.int .i64 0,.int .i64 0,.string xe,.bool false,.slice none 0 0,.slice none 0 0,.string xe],.int .i64 k',.bool false])/\Below w.heap.size w w':=by
 refine(IH i w hi hn).mono ?_;rintro e w' ⟨h1,h2⟩;rw[hx]at h1;obtain⟨k',h1⟩:=h1;exact⟨k',h1,h2⟩
theorem FieldOK.yes {n:Nat}{s:ByteArray}(IH:FieldOK n s){i:Nat}(w:World)(hi:i<=s.size)(hn:s.size<=i+2+n){f:Nat×Ty×ByteArray}{k:Nat}(hx:zar (zae false s n) (enc false s n) s i=some (f,k)) :
 Calls Tryz.prog 303 #[.string s,.int .i64 i] w fun e w'=>∃ ai li ci af lf cf,e=.returned (.tuple #[.agg #[.int .i64 f.1,.int .i64 f.2.1.kind,.string f.2.1.letters,.bool f.2.1.op,.slice ai li ci,.slice af lf cf,.string f.2.2],.int .i64 k,.bool true])/\RepB (fun b=>w.heap.size<=b) n w' ai li ci af lf cf f.2.1/\Below w.heap.size w w':=by
 refine(IH i w hi hn).mono ?_;rintro e w' ⟨h1,h2⟩;rw[hx]at h1;obtain⟨ai,li,ci,af,lf,cf,h1,h3⟩:=h1;exact⟨ai,li,ci,af,lf,cf,h1,h3,h2⟩
def zrh:Option (List (Nat×Ty×ByteArray)×Nat)->Option (Ty×Nat)
 |none=>none
 |some (fs,k)=>some (⟨123,xe,false,[],fs⟩,k)
theorem zzt (pf:Nat->Option ((Nat×Ty×ByteArray)×Nat))(s:ByteArray)(a:Nat):pRec pf s a=zrh (za1 pf s (s.size-a) a []):=by
 unfold pRec zrh;rcases za1 pf s (s.size-a) a []with _|⟨fs,k⟩<;>rfl
theorem zrk {n H g g':Nat}{wr w1 w2 w3:World}{o o2:Obj}{xs:List Value}{acc:List (Nat×Ty×ByteArray)}{f:Nat×Ty×ByteArray}{ai af:Option Addr}{li ci lf cf:Nat}
  (hrow:RowOf (fun b=>H+1<=b/\b≠g) n wr xs acc) (hr1:RepB (fun b=>wr.heap.size<=b) n w1 ai li ci af lf cf f.2.1) (hb1:Below wr.heap.size wr w1) (hb2:Below (w1.alloc o).heap.size (w1.alloc o) w2)
  (hgrow:(w2.alloc o2).grownBy w3 (some g)) (hat:some g=some g'\/g'=w2.heap.size+1) (hH:H+1<=wr.heap.size) (hg:g<wr.heap.size) :
  RowOf (fun b=>H+1<=b/\b≠g') n w3 (xs++[.int .i64 f.1,.int .i64 f.2.1.kind,.string f.2.1.letters,.bool f.2.1.op,.slice ai li ci,.slice af lf cf,.string f.2.2]) (acc++[f]):=by
 have z1:=hb1.size;have z2:=hb2.size;rw[zb5]at z2;have hg':g'=g\/g'=w2.heap.size+1:=by
  rcases hat with h|h
  ·left;cases h;rfl
  ·exact .inr h
 have tr:∀ b o v,b≠g->w1.cell? ⟨b,o,none⟩=some v->w3.cell? ⟨b,o,none⟩=some v:=fun b o v hne h =>
  hgrow.cell (zah _ (zab hb2 (zah _ h))) (fun e=>hne (by cases e;rfl))
 have h1:RowOf (fun b=>H+1<=b/\b≠g/\b≠g') n wr xs acc:=hrow.imp (fun b hb h=>⟨h.1,h.2,by omega⟩);have h2:RowOf (fun b=>H+1<=b/\b≠g') n w3 xs acc:=(h1.keep (fun b o v hS h=>tr b o v hS.2.1 (zab hb1 h))).imp (fun b _ h=>⟨h.1,h.2.2⟩);have h3:RepB (fun b=>H+1<=b/\b≠g/\b≠g') n w1 ai li ci af lf cf f.2.1:=hr1.imp (fun b hb h=>by refine⟨?_,?_,?_⟩<;>omega);exact h2.snoc ((h3.keep (fun b o v hS h=>tr b o v hS.2.1 h)).imp (fun b _ h=>⟨h.1,h.2.2⟩))
theorem yabi {n H g cap:Nat}{w:World}{xs:List Value}{fs:List (Nat×Ty×ByteArray)}(hne:fs≠[])(hfl:fs.length<=9000000)(hown:w.ownsRow (H+1) 315 7 (.slice (some ⟨g,0,none⟩) fs.length cap) fs.length xs)(hrow:RowOf (fun b=>H+1<=b/\b≠g) n w xs fs) :
  RepB (fun b=>H+1<=b) (n+1) w none 0 0 (some ⟨g,0,none⟩) fs.length cap ⟨123,xe,false,[],fs⟩:=by
 refine⟨xj _,hfl,rfl,⟨fun h=>by simp at h,fun _=>hne⟩,.inl ⟨rfl,rfl,rfl,rfl⟩,.inr ⟨g,(hown.lt g rfl).1,hne,rfl,fun i f hi=>?_⟩⟩;obtain⟨p1,p2,p3,q1,q2,q3,h1,k0,k1,k2,k3,k4,k5,k6⟩:=hrow.2 i f hi;exact⟨p1,p2,p3,q1,q2,q3,h1.imp (fun b _ h=>h.1),zbm hown k0,zbm hown k1,zbm hown k2,zbm hown k3,zbm hown k4,zbm hown k5,zbm hown k6⟩
theorem zz4 {n:Nat}{s:ByteArray}(IH:FieldOK n s)(hs:s.size<=4096)(a0:Nat)(w:World)(ha0:a0<=s.size)(hn:s.size<=a0+n)(hbd:∀ i f k,zar (zae false s n) (enc false s n) s i=some (f,k)->i<k/\k<=s.size) :
  Calls Tryz.prog 280 #[.string s,.int .i64 a0] w fun e w'=>PRet w.heap.size (n+1) (pRec (zar (zae false s n) (enc false s n) s) s a0) e w'/\Below w.heap.size w w':=by
 have _hs:s.size<=9000000:=by omega
 obtain⟨R,hR⟩:∃ R,R=za1 (zar (zae false s n) (enc false s n) s) s (s.size-a0) a0 []:=⟨_,rfl⟩;rw[zzt,<- hR];have HR:Hid (R=za1 (zar (zae false s n) (enc false s n) s) s (s.size-a0) a0 []):=hR;clear hR
 go_enter Tryz.func280,Tryz.ntmps280
 go_wp2_with fail
 go_loopw [1,7] (fun va vf wr=>∃ (a m g cap:Nat) (acc:List (Nat×Ty×ByteArray)) (xs:List Value),va=.int .i64 a/\vf=.slice (some ⟨g,0,none⟩) acc.length cap/\a0<=a/\a<=s.size+1/\s.size<=a+m/\acc.length<=a /\
   wr.ownsRow (w.heap.size+1) 315 7 (.slice (some ⟨g,0,none⟩) acc.length cap) acc.length xs/\RowOf (fun b=>w.heap.size+1<=b/\b≠g) n wr xs acc /\
   Hid (R=za1 (zar (zae false s n) (enc false s n) s) s m a acc)/\Below (w.heap.size+1) (w.alloc (.cells #[.int .i64 0,.string ⟨#[]⟩,.bool false,.slice none 0 0,.slice none 0 0] 201)) wr) (fun a _ _=>s.size+1-(intOf a).toNat)
 case atStart =>
  refine⟨a0,s.size-a0,w.heap.size+1,0,[],[],rfl,rfl,xf _,by omega,by omega,xj _,?_,RowOf.nil,HR,(Below.refl (w.heap.size+1) _).alloc (by simp) _⟩;have h:=World.ownsRow_made (base:=w.heap.size+1) (e:=315) (size:=7) (w.alloc (.cells #[.int .i64 0,.string ⟨#[]⟩,.bool false,.slice none 0 0,.slice none 0 0] 201)) #[] 0 (by simp) (by unfold maxLen;omega) rfl;rw[zb5]at h;exact h
 case round =>
  obtain⟨a,m,g,cap,acc,xs,rfl,rfl,ha1,ha2,ham,hacc,hown,hrow,hR,hb⟩:=hrel;obtain⟨hcr,hfr⟩:=zap hb;have hzr:w.heap.size<wr.heap.size:=by have:=hb.size;simp at this;omega
  have hbw:Below w.heap.size w wr:=((Below.refl _ _).alloc (xf _) _).trans (hb.mono (by omega));have hgl:=hown.lt g rfl;obtain⟨hg1,hg2⟩:=hgl;by_cases hlt:a<s.size
  ·obtain⟨m',rfl⟩:∃ m',m=m'+1:=⟨m-1,by omega⟩;cases hx:zar (zae false s n) (enc false s n) s a with
   |none =>
    have hr':Hid (R=none):=by show _=_;rw[hR.out,za1,hx]
    have hcall:=fun w=>IH.no w (show a<=s.size by omega) (by omega) hx;clear hx hbd
    go_wp2_with (first|(go_at_call 303;refine(hcall _).mono ?_;rintro e w1 ⟨k',rfl,hb1⟩;obtain⟨hc1,hf1⟩:=zap hb1;have hz1:wr.heap.size<=w1.heap.size:=hb1.size;have hz4:w.heap.size<w1.heap.size:=(by omega)))
    (try simp only[Exit.inBlock,Exit.then])
    refine bodyPost_ret (v:=.tuple #[.agg #[.int .i64 0,.string xe,.bool false,.slice none 0 0,.slice none 0 0],.int .i64 a,.bool false]) (by simp[results,Tryz.results280,go_sem,hc1,hcr,hz1,hzr,hz4];rfl) rfl ?_;rw[hr'.out];exact⟨⟨a,rfl⟩,Below.alloc' (Below.set5 (hbw.trans (hb1.mono hbw.size)) (xf _)) _⟩
   |some p =>
    obtain⟨f,k⟩:=p;obtain⟨hk1,hk2⟩:=hbd a f k hx;have hcall:=fun w=>IH.yes w (show a<=s.size by omega) (by omega) hx;have hasF:∀ (w1:World) (o:Obj),Below wr.heap.size wr w1->Calls Tryz.prog 284 #[.slice (some ⟨g,0,none⟩) acc.length cap,.int .i64 f.1] (w1.alloc o) fun e w'=>e=.returned (.int .i64 (plF acc f.1))/\Below (w1.alloc o).heap.size (w1.alloc o) w':=fun w1 o hb1=>by
     refine zk6 acc f.1 (w1.alloc o) g cap (by omega) (fun i f hi=>?_);obtain⟨p1,p2,p3,q1,q2,q3,h1,h2⟩:=hrow.2 i f hi;obtain⟨k0,k1,k2,k3,k4,k5,k6⟩:=h2;have ho:=(zas hown hb1).alloc o;exact⟨p1,p2,p3,q1,q2,q3,zbm ho k0,zbm ho k1,zbm ho k2,zbm ho k3,zbm ho k4,zbm ho k5,zbm ho k6⟩
    cases hh:hasL acc f.1 with
    |true =>
     obtain⟨pp,hpp,hppl⟩:=yaai acc f.1 hh;rw[hpp]at hasF;have hr':Hid (R=none):=by show _=_;rw[hR.out,za1,hx];simp only[show (acc.any fun g=>g.1 == f.1)=true from hh,if_true]
     clear hx hbd
     go_wp2_with (first|(go_at_call 303;refine(hcall _).mono ?_;rintro e w1 ⟨ai,li,ci,af,lf,cf,rfl,hr1,hb1⟩;obtain⟨hc1,hf1⟩:=zap hb1;have hz1:wr.heap.size<=w1.heap.size:=hb1.size;have hz4:w.heap.size<w1.heap.size:=(by omega))|(go_at_call 284;refine(hasF _ _ hb1).mono ?_;rintro e w2 ⟨rfl,hb2⟩;obtain⟨hc2,hf2⟩:=zap hb2;have hz2:w1.heap.size<w2.heap.size:=(by have:=hb2.size;simp at this;omega);have hz5:w.heap.size<w1.heap.size+1:=(by omega)))
     (try simp only[Exit.inBlock,Exit.then])
     refine bodyPost_ret (v:=.tuple #[.agg #[.int .i64 0,.string xe,.bool false,.slice none 0 0,.slice none 0 0],.int .i64 a,.bool false]) (by simp[results,Tryz.results280,go_sem,hc1,hcr,hc2,hz1,hz2,hz4,hz5,hzr];rfl) rfl ?_;rw[hr'.out];exact⟨⟨a,rfl⟩,Below.set5 ((Below.alloc' (hbw.trans (hb1.mono hbw.size)) _).trans (hb2.mono (by simp;omega))) (xf _)⟩
    |false =>
     rw[yaaf acc f.1 hh]at hasF;obtain⟨i0,hi0,hz0,hzz1,hzz2⟩:=info_parts Tryz.infoField;have hown3:∀ (w1 w2:World) (o:Obj) (o2:Obj),Below wr.heap.size wr w1->Below (w1.alloc o).heap.size (w1.alloc o) w2->(w2.alloc o2).ownsRow (w.heap.size+1) 315 7 (.slice (some ⟨g,0,none⟩) acc.length cap) acc.length xs:=fun w1 w2 o o2 hb1 hb2=>(zas ((zas hown hb1).alloc o) hb2).alloc o2;have hbig:∀ (w1 w2 w3:World) (o o2:Obj),Below wr.heap.size wr w1->Below (w1.alloc o).heap.size (w1.alloc o) w2->(w2.alloc o2).grownBy w3 (some g)->Below (w.heap.size+1) (w.alloc (.cells #[.int .i64 0,.string ⟨#[]⟩,.bool false,.slice none 0 0,.slice none 0 0] 201)) w3:=fun w1 w2 w3 o o2 hb1 hb2 hgrow=>by
      have z1:=hb1.size;have z2:=hb2.size;simp at z2;have c1:=hb.trans (hb1.mono (by omega));have c2:=(c1.alloc (by omega) o).trans (hb2.mono (by simp;omega));exact Below.grown (c2.alloc (by omega) o2) hgrow (by simp;omega) (fun k hk=>by cases hk;omega)
     by_cases h5:bAt s k=125
     ·have h5':(bAt s k == 125)=true:=by simp[h5]
      have hr':Hid (R=some (acc++[f],k+1)):=by show _=_;rw[hR.out,za1,hx];simp only[show (acc.any fun g=>g.1 == f.1)=false from hh,if_pos h5];rfl
      clear hx hbd h5
      go_wp2_with (first|(go_at_call 303;refine(hcall _).mono ?_;rintro e w1 ⟨ai,li,ci,af,lf,cf,rfl,hr1,hb1⟩;obtain⟨hc1,hf1⟩:=zap hb1;have hz1:wr.heap.size<=w1.heap.size:=hb1.size;have hz4:w.heap.size<w1.heap.size:=(by omega))|(go_at_call 284;refine(hasF _ _ hb1).mono ?_;rintro e w2 ⟨rfl,hb2⟩;obtain⟨hc2,hf2⟩:=zap hb2;have hz2:w1.heap.size<w2.heap.size:=(by have:=hb2.size;simp at this;omega);have hz5:w.heap.size<w1.heap.size+1:=(by omega))|(at_builtin;refine wpList_append_lies _ rfl _ _ _ rfl (w.heap.size+1) 315 i0 _ 7 104 Tryz.underlying199 hi0 hz0 hzz1 hzz2 rfl (by omega) _ acc.length xs rfl (hown3 _ _ _ _ hb1 hb2) ⟨w2.heap.size,0,none⟩ 1 1 [.int .i64 f.1,.int .i64 f.2.1.kind,.string f.2.1.letters,.bool f.2.1.op,.slice ai li ci,.slice af lf cf,.string f.2.2] rfl rfl (xp (heap_alloc_new w2 _)) (by simp[xy]) (by omega) (by unfold maxLen;omega) (by omega) (by simp;omega) (w2.heap.size+1) (by simp) ?_;intro g' cap' w3 hown' hgrow hat hlt3;have hb3:=hbig _ _ _ _ _ hb1 hb2 hgrow;obtain⟨hc3,hf3⟩:=zap hb3;have hz3:w2.heap.size+1<=w3.heap.size:=(by have:=hgrow.size;simp at this;omega))|(go_at_call 245;refine(zan _ _ _ (by omega) _hs).mono ?_;rintro e w3 ⟨rfl,rfl⟩))
      have hb0:Below w.heap.size w w3:=((Below.refl _ _).alloc (xf _) _).trans (hb3.mono (by omega));have hl:(acc++[f]).length=acc.length+1:=by simp
      have hrow3:=zrk hrow hr1 hb1 hb2 hgrow hat (by omega) hg2;rw[<- hl]at hown';have hg3:=(hown'.lt g' rfl).1;have hrep:=yabi (by simp) (by simp;omega) hown' hrow3;rw[hl]at hrep;refine bodyPost_ret (v:=.tuple #[.agg #[.int .i64 123,.string xe,.bool false,.slice none 0 0,.slice (some ⟨g',0,none⟩) (acc.length+1) cap'],.int .i64 (k+1:Nat),.bool true]) (by simp[results,Tryz.results280,go_sem,hc3];rfl) rfl ?_;rw[hr'.out];exact⟨⟨_,_,_,_,_,_,rfl,(hrep.keep (fun b o v hS h=>zco h (by omega))).imp (fun b _ h=>by show w.heap.size<=b;omega)⟩,Below.set5 hb0 (xf _)⟩
     ·have h5':(bAt s k == 125)=false:=by simpa using h5
      by_cases h4:bAt s k=44
      ·have h4':(bAt s k != 44)=false:=by simp[h4]
       have hkl:k<s.size:=zaw (by omega);have hr':Hid (R=za1 (zar (zae false s n) (enc false s n) s) s m' (k+1) (acc++[f])):=by show _=_;rw[hR.out,za1,hx];simp only[show (acc.any fun g=>g.1 == f.1)=false from hh,if_neg h5,if_pos h4];rfl
       clear hx hbd h5 h4
       go_wp2_with (first|(go_at_call 303;refine(hcall _).mono ?_;rintro e w1 ⟨ai,li,ci,af,lf,cf,rfl,hr1,hb1⟩;obtain⟨hc1,hf1⟩:=zap hb1;have hz1:wr.heap.size<=w1.heap.size:=hb1.size;have hz4:w.heap.size<w1.heap.size:=(by omega))|(go_at_call 284;refine(hasF _ _ hb1).mono ?_;rintro e w2 ⟨rfl,hb2⟩;obtain⟨hc2,hf2⟩:=zap hb2;have hz2:w1.heap.size<w2.heap.size:=(by have:=hb2.size;simp at this;omega);have hz5:w.heap.size<w1.heap.size+1:=(by omega))|(at_builtin;refine wpList_append_lies _ rfl _ _ _ rfl (w.heap.size+1) 315 i0 _ 7 104 Tryz.underlying199 hi0 hz0 hzz1 hzz2 rfl (by omega) _ acc.length xs rfl (hown3 _ _ _ _ hb1 hb2) ⟨w2.heap.size,0,none⟩ 1 1 [.int .i64 f.1,.int .i64 f.2.1.kind,.string f.2.1.letters,.bool f.2.1.op,.slice ai li ci,.slice af lf cf,.string f.2.2] rfl rfl (xp (heap_alloc_new w2 _)) (by simp[xy]) (by omega) (by unfold maxLen;omega) (by omega) (by simp;omega) (w2.heap.size+1) (by simp) ?_;intro g' cap' w3 hown' hgrow hat hlt3;have hb3:=hbig _ _ _ _ _ hb1 hb2 hgrow;obtain⟨hc3,hf3⟩:=zap hb3;have hz3:w2.heap.size+1<=w3.heap.size:=(by have:=hgrow.size;simp at this;omega))|(go_at_call 245;refine(zan _ _ _ (by omega) _hs).mono ?_;rintro e w3 ⟨rfl,rfl⟩))
       have hrow3:=zrk hrow hr1 hb1 hb2 hgrow hat (by omega) hg2;have hl:(acc++[f]).length=acc.length+1:=by simp
       rw[<- hl]at hown'
       go_roundw
       case rel =>
        exact⟨k+1,m',g',cap',acc++[f],_,by go_num,by rw[hl],by omega,by omega,by omega,by rw[hl];omega,hown',hrow3,hr',hb3⟩
       case measure=>simp[intOf];omega
      ·have h4':(bAt s k != 44)=true:=by simpa using h4
       have hr':Hid (R=none):=by show _=_;rw[hR.out,za1,hx];simp only[show (acc.any fun g=>g.1 == f.1)=false from hh,if_neg h5,if_neg h4];rfl
       clear hx hbd h5 h4
       go_wp2_with (first|(go_at_call 303;refine(hcall _).mono ?_;rintro e w1 ⟨ai,li,ci,af,lf,cf,rfl,hr1,hb1⟩;obtain⟨hc1,hf1⟩:=zap hb1;have hz1:wr.heap.size<=w1.heap.size:=hb1.size;have hz4:w.heap.size<w1.heap.size:=(by omega))|(go_at_call 284;refine(hasF _ _ hb1).mono ?_;rintro e w2 ⟨rfl,hb2⟩;obtain⟨hc2,hf2⟩:=zap hb2;have hz2:w1.heap.size<w2.heap.size:=(by have:=hb2.size;simp at this;omega);have hz5:w.heap.size<w1.heap.size+1:=(by omega))|(at_builtin;refine wpList_append_lies _ rfl _ _ _ rfl (w.heap.size+1) 315 i0 _ 7 104 Tryz.underlying199 hi0 hz0 hzz1 hzz2 rfl (by omega) _ acc.length xs rfl (hown3 _ _ _ _ hb1 hb2) ⟨w2.heap.size,0,none⟩ 1 1 [.int .i64 f.1,.int .i64 f.2.1.kind,.string f.2.1.letters,.bool f.2.1.op,.slice ai li ci,.slice af lf cf,.string f.2.2] rfl rfl (xp (heap_alloc_new w2 _)) (by simp[xy]) (by omega) (by unfold maxLen;omega) (by omega) (by simp;omega) (w2.heap.size+1) (by simp) ?_;intro g' cap' w3 hown' hgrow hat hlt3;have hb3:=hbig _ _ _ _ _ hb1 hb2 hgrow;obtain⟨hc3,hf3⟩:=zap hb3;have hz3:w2.heap.size+1<=w3.heap.size:=(by have:=hgrow.size;simp at this;omega))|(go_at_call 245;refine(zan _ _ _ (by omega) _hs).mono ?_;rintro e w3 ⟨rfl,rfl⟩))
       have hb0:Below w.heap.size w w3:=((Below.refl _ _).alloc (xf _) _).trans (hb3.mono (by omega))
       (try simp only[Exit.inBlock,Exit.then])
       refine bodyPost_ret (v:=.tuple #[.agg #[.int .i64 0,.string xe,.bool false,.slice none 0 0,.slice none 0 0],.int .i64 a,.bool false]) (by simp[results,Tryz.results280,go_sem,hc3];rfl) rfl ?_;rw[hr'.out];exact⟨⟨a,rfl⟩,Below.set5 hb0 (xf _)⟩
  ·have hr':Hid (R=none):=by
    show _=_;rw[hR.out];cases m with
    |zero=>rfl
    |succ m=>rw[za1,show zar (zae false s n) (enc false s n) s a=none by unfold zar;rw[zd0 s a (by omega),if_neg (by simp[isL])]]
   clear hbd
   go_wp2_with fail
   (try simp only[Exit.inBlock,Exit.then])
   refine bodyPost_ret (v:=.tuple #[.agg #[.int .i64 0,.string xe,.bool false,.slice none 0 0,.slice none 0 0],.int .i64 a,.bool false]) (by simp[results,Tryz.results280,go_sem,hcr,hzr];rfl) rfl ?_;rw[hr'.out];exact⟨⟨a,rfl⟩,Below.set5 hbw (xf _)⟩
end Go.Proofs.YtkkekopomiehlabGreatDoor
