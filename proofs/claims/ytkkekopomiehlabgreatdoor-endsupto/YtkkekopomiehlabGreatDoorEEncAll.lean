import Derived.Test.YtkkekopomiehlabGreatDoorERep
set_option linter.unusedVariables false
set_option linter.unusedSimpArgs false
set_option maxHeartbeats 40000000
open ByteArray renaming empty->xe
open Nat renaming le_refl->xf,zero_le->xg
open Go.World renaming cell?_of_block->xh
open Go.RowKit
namespace Go.Proofs.YtkkekopomiehlabGreatDoor
theorem zwi {n:Nat}{t:ByteArray}(IH:EncAtOK n t)(ht:t.size<=4096)(hn:n<=100):EncAtOK (n+1) t:=by
 intro ty j w ai af li ci lf cf hj hr;have _hs:t.size<=9000000:=by omega
 have hB:∀ o,Below w.heap.size w (w.alloc o):=fun o=>(Below.refl _ _).alloc (xf _) _;have hl8:ty.letters.size<=8:=hr.1;have hlf:=hr.flds;by_cases h105:ty.kind=105
 ·have h105':((ty.kind:Int) == 105)=true:=by simp[h105]
  have hr':Hid (enc false t (n+1) ty j=zbf false (-2147483648) 2147483647 t j):=by show _=_;rw[enc,if_pos h105]
  clear h105 hr hlf
  go_enter Tryz.func238,Tryz.ntmps238
  cases hx:zbf false (-2147483648) 2147483647 t j with
  |none =>
   have hcall:∀ o,Calls Tryz.prog 286 #[.int .i64 (-2147483648),.int .i64 2147483647,.string t,.int .i64 j] (w.alloc o) fun e w'=>e=.returned (.tuple #[.string xe,.int .i64 j,.bool false])/\Below (w.alloc o).heap.size (w.alloc o) w':=fun o=>by have:=zh0 (-2147483648) 2147483647 t j (w.alloc o) _hs hj;rw[hx]at this;exact this
   go_wp2_with (go_at_call 286;refine(hcall _).mono ?_;rintro e w' ⟨rfl,hbw⟩)
   go_ret3
   rw[hr'.out,hx];exact⟨rfl,(hB _).trans (hbw.mono (by simp))⟩
  |some p =>
   obtain⟨d,k⟩:=p;have hcall:∀ o,Calls Tryz.prog 286 #[.int .i64 (-2147483648),.int .i64 2147483647,.string t,.int .i64 j] (w.alloc o) fun e w'=>e=.returned (.tuple #[.string d,.int .i64 k,.bool true])/\Below (w.alloc o).heap.size (w.alloc o) w':=fun o=>by have:=zh0 (-2147483648) 2147483647 t j (w.alloc o) _hs hj;rw[hx]at this;exact this
   go_wp2_with (go_at_call 286;refine(hcall _).mono ?_;rintro e w' ⟨rfl,hbw⟩)
   go_ret3
   rw[hr'.out,hx];exact⟨rfl,(hB _).trans (hbw.mono (by simp))⟩
 have h105':((ty.kind:Int) == 105)=false:=by simp;omega
 by_cases h108:ty.kind=108
 ·have h108':((ty.kind:Int) == 108)=true:=by simp[h108]
  have hr':Hid (enc false t (n+1) ty j=zbf false (-1000000000000000) 1000000000000000 t j):=by show _=_;rw[enc,if_neg h105,if_pos h108]
  clear h105 h108 hr hlf
  go_enter Tryz.func238,Tryz.ntmps238
  cases hx:zbf false (-1000000000000000) 1000000000000000 t j with
  |none =>
   have hcall:∀ o,Calls Tryz.prog 286 #[.int .i64 (-1000000000000000),.int .i64 1000000000000000,.string t,.int .i64 j] (w.alloc o) fun e w'=>e=.returned (.tuple #[.string xe,.int .i64 j,.bool false])/\Below (w.alloc o).heap.size (w.alloc o) w':=fun o=>by have:=zh0 (-1000000000000000) 1000000000000000 t j (w.alloc o) _hs hj;rw[hx]at this;exact this
   go_wp2_with (go_at_call 286;refine(hcall _).mono ?_;rintro e w' ⟨rfl,hbw⟩)
   go_ret3
   rw[hr'.out,hx];exact⟨rfl,(hB _).trans (hbw.mono (by simp))⟩
  |some p =>
   obtain⟨d,k⟩:=p;have hcall:∀ o,Calls Tryz.prog 286 #[.int .i64 (-1000000000000000),.int .i64 1000000000000000,.string t,.int .i64 j] (w.alloc o) fun e w'=>e=.returned (.tuple #[.string d,.int .i64 k,.bool true])/\Below (w.alloc o).heap.size (w.alloc o) w':=fun o=>by have:=zh0 (-1000000000000000) 1000000000000000 t j (w.alloc o) _hs hj;rw[hx]at this;exact this
   go_wp2_with (go_at_call 286;refine(hcall _).mono ?_;rintro e w' ⟨rfl,hbw⟩)
   go_ret3
   rw[hr'.out,hx];exact⟨rfl,(hB _).trans (hbw.mono (by simp))⟩
 have h108':((ty.kind:Int) == 108)=false:=by simp;omega
 by_cases h115:ty.kind=115
 ·have h115':((ty.kind:Int) == 115)=true:=by simp[h115]
  have hr':Hid (enc false t (n+1) ty j=zb2 t j):=by show _=_;rw[enc,if_neg h105,if_neg h108,if_pos h115]
  clear h105 h108 h115 hr hlf
  go_enter Tryz.func238,Tryz.ntmps238
  cases hx:zb2 t j with
  |none =>
   have hcall:∀ o,Calls Tryz.prog 287 #[.string t,.int .i64 j] (w.alloc o) fun e w'=>e=.returned (.tuple #[.string xe,.int .i64 j,.bool false])/\Below (w.alloc o).heap.size (w.alloc o) w':=fun o=>by have:=zon t j (w.alloc o) _hs hj;rw[hx]at this;exact this
   go_wp2_with (go_at_call 287;refine(hcall _).mono ?_;rintro e w' ⟨rfl,hbw⟩)
   go_ret3
   rw[hr'.out,hx];exact⟨rfl,(hB _).trans (hbw.mono (by simp))⟩
  |some p =>
   obtain⟨d,k⟩:=p;have hcall:∀ o,Calls Tryz.prog 287 #[.string t,.int .i64 j] (w.alloc o) fun e w'=>e=.returned (.tuple #[.string d,.int .i64 k,.bool true])/\Below (w.alloc o).heap.size (w.alloc o) w':=fun o=>by have:=zon t j (w.alloc o) _hs hj;rw[hx]at this;exact this
   go_wp2_with (go_at_call 287;refine(hcall _).mono ?_;rintro e w' ⟨rfl,hbw⟩)
   go_ret3
   rw[hr'.out,hx];exact⟨rfl,(hB _).trans (hbw.mono (by simp))⟩
 have h115':((ty.kind:Int) == 115)=false:=by simp;omega
 by_cases h60:ty.kind=60
 ·have h60':((ty.kind:Int) == 60)=true:=by simp[h60]
  have hr':Hid (enc false t (n+1) ty j=zde ty.letters t j):=by show _=_;rw[enc,if_neg h105,if_neg h108,if_neg h115,if_pos h60];rfl
  clear h105 h108 h115 h60 hr hlf
  go_enter Tryz.func238,Tryz.ntmps238
  cases hx:zde ty.letters t j with
  |none =>
   have hcall:∀ o,Calls Tryz.prog 288 #[.string ty.letters,.string t,.int .i64 j] (w.alloc o) fun e w'=>e=.returned (.tuple #[.string xe,.int .i64 j,.bool false])/\Below (w.alloc o).heap.size (w.alloc o) w':=fun o=>by have:=zoj ty.letters t j (w.alloc o) _hs hl8 hj;rw[hx]at this;exact this
   go_wp2_with (go_at_call 288;refine(hcall _).mono ?_;rintro e w' ⟨rfl,hbw⟩)
   go_ret3
   rw[hr'.out,hx];exact⟨rfl,(hB _).trans (hbw.mono (by simp))⟩
  |some p =>
   obtain⟨d,k⟩:=p;have hcall:∀ o,Calls Tryz.prog 288 #[.string ty.letters,.string t,.int .i64 j] (w.alloc o) fun e w'=>e=.returned (.tuple #[.string d,.int .i64 k,.bool true])/\Below (w.alloc o).heap.size (w.alloc o) w':=fun o=>by have:=zoj ty.letters t j (w.alloc o) _hs hl8 hj;rw[hx]at this;exact this
   go_wp2_with (go_at_call 288;refine(hcall _).mono ?_;rintro e w' ⟨rfl,hbw⟩)
   go_ret3
   rw[hr'.out,hx];exact⟨rfl,(hB _).trans (hbw.mono (by simp))⟩
 have h60':((ty.kind:Int) == 60)=false:=by simp;omega
 by_cases h91:ty.kind=91
 ·have h91':((ty.kind:Int) == 91)=true:=by simp[h91]
  have hr':Hid (enc false t (n+1) ty j=zb1 (enc false t n ty.in) t j):=by show _=_;rw[enc,if_neg h105,if_neg h108,if_neg h115,if_neg h60,if_pos h91]
  have hne:ty.inner≠[]:=hr.2.2.2.1.1 (by omega);have hin:=fun o=>zei n (w.alloc o) ai af li ci lf cf ty (hr.keep (hB o)) hne;clear h105 h108 h115 h60 h91 hr hlf;cases hx:zb1 (enc false t n ty.in) t j with
  |none =>
   have hcall:∀ (w1:World) p1 p2 p3 q1 q2 q3,Rep n w1 p1 p2 p3 q1 q2 q3 ty.in->Calls Tryz.prog 289 #[.agg #[.int .i64 ty.in.kind,.string ty.in.letters,.bool ty.in.op,.slice p1 p2 p3,.slice q1 q2 q3],.string t,.int .i64 j] w1 fun e w'=>e=.returned (.tuple #[.string xe,.int .i64 j,.bool false])/\Below w1.heap.size w1 w':=fun w1 p1 p2 p3 q1 q2 q3 h1=>by have:=zok IH ht hn ty.in j w1 p1 q1 p2 p3 q2 q3 hj h1;rw[hx]at this;exact this
   go_enter Tryz.func238,Tryz.ntmps238
   go_wp2_with (first|(go_at_call 194;refine(hin _).mono ?_;rintro e w1 ⟨p1,p2,p3,q1,q2,q3,rfl,hr1,hb1⟩)|(go_at_call 289;refine(hcall _ _ _ _ _ _ _ hr1).mono ?_;rintro e w2 ⟨rfl,hb2⟩))
   go_ret3
   rw[hr'.out,hx];exact⟨rfl,(hB _).trans ((hb1.mono (by simp)).trans (hb2.mono (by have:=hb1.size;simp at this;omega)))⟩
  |some p =>
   obtain⟨d,k⟩:=p;have hcall:∀ (w1:World) p1 p2 p3 q1 q2 q3,Rep n w1 p1 p2 p3 q1 q2 q3 ty.in->Calls Tryz.prog 289 #[.agg #[.int .i64 ty.in.kind,.string ty.in.letters,.bool ty.in.op,.slice p1 p2 p3,.slice q1 q2 q3],.string t,.int .i64 j] w1 fun e w'=>e=.returned (.tuple #[.string d,.int .i64 k,.bool true])/\Below w1.heap.size w1 w':=fun w1 p1 p2 p3 q1 q2 q3 h1=>by have:=zok IH ht hn ty.in j w1 p1 q1 p2 p3 q2 q3 hj h1;rw[hx]at this;exact this
   go_enter Tryz.func238,Tryz.ntmps238
   go_wp2_with (first|(go_at_call 194;refine(hin _).mono ?_;rintro e w1 ⟨p1,p2,p3,q1,q2,q3,rfl,hr1,hb1⟩)|(go_at_call 289;refine(hcall _ _ _ _ _ _ _ hr1).mono ?_;rintro e w2 ⟨rfl,hb2⟩))
   go_ret3
   rw[hr'.out,hx];exact⟨rfl,(hB _).trans ((hb1.mono (by simp)).trans (hb2.mono (by have:=hb1.size;simp at this;omega)))⟩
 have h91':((ty.kind:Int) == 91)=false:=by simp;omega
 by_cases h63:ty.kind=63
 ·have h63':((ty.kind:Int) == 63)=true:=by simp[h63]
  have hr':Hid (enc false t (n+1) ty j=zbq (enc false t n ty.in) t j):=by show _=_;rw[enc,if_neg h105,if_neg h108,if_neg h115,if_neg h60,if_neg h91,if_pos h63]
  have hne:ty.inner≠[]:=hr.2.2.2.1.1 (by omega);have hin:=fun o=>zei n (w.alloc o) ai af li ci lf cf ty (hr.keep (hB o)) hne;clear h105 h108 h115 h60 h91 h63 hr hlf;cases hx:zbq (enc false t n ty.in) t j with
  |none =>
   have hcall:∀ (w1:World) p1 p2 p3 q1 q2 q3,Rep n w1 p1 p2 p3 q1 q2 q3 ty.in->Calls Tryz.prog 290 #[.agg #[.int .i64 ty.in.kind,.string ty.in.letters,.bool ty.in.op,.slice p1 p2 p3,.slice q1 q2 q3],.string t,.int .i64 j] w1 fun e w'=>e=.returned (.tuple #[.string xe,.int .i64 j,.bool false])/\Below w1.heap.size w1 w':=fun w1 p1 p2 p3 q1 q2 q3 h1=>by have:=zol IH ht hn ty.in j w1 p1 q1 p2 p3 q2 q3 hj h1;rw[hx]at this;exact this
   go_enter Tryz.func238,Tryz.ntmps238
   go_wp2_with (first|(go_at_call 194;refine(hin _).mono ?_;rintro e w1 ⟨p1,p2,p3,q1,q2,q3,rfl,hr1,hb1⟩)|(go_at_call 290;refine(hcall _ _ _ _ _ _ _ hr1).mono ?_;rintro e w2 ⟨rfl,hb2⟩))
   go_ret3
   rw[hr'.out,hx];exact⟨rfl,(hB _).trans ((hb1.mono (by simp)).trans (hb2.mono (by have:=hb1.size;simp at this;omega)))⟩
  |some p =>
   obtain⟨d,k⟩:=p;have hcall:∀ (w1:World) p1 p2 p3 q1 q2 q3,Rep n w1 p1 p2 p3 q1 q2 q3 ty.in->Calls Tryz.prog 290 #[.agg #[.int .i64 ty.in.kind,.string ty.in.letters,.bool ty.in.op,.slice p1 p2 p3,.slice q1 q2 q3],.string t,.int .i64 j] w1 fun e w'=>e=.returned (.tuple #[.string d,.int .i64 k,.bool true])/\Below w1.heap.size w1 w':=fun w1 p1 p2 p3 q1 q2 q3 h1=>by have:=zol IH ht hn ty.in j w1 p1 q1 p2 p3 q2 q3 hj h1;rw[hx]at this;exact this
   go_enter Tryz.func238,Tryz.ntmps238
   go_wp2_with (first|(go_at_call 194;refine(hin _).mono ?_;rintro e w1 ⟨p1,p2,p3,q1,q2,q3,rfl,hr1,hb1⟩)|(go_at_call 290;refine(hcall _ _ _ _ _ _ _ hr1).mono ?_;rintro e w2 ⟨rfl,hb2⟩))
   go_ret3
   rw[hr'.out,hx];exact⟨rfl,(hB _).trans ((hb1.mono (by simp)).trans (hb2.mono (by have:=hb1.size;simp at this;omega)))⟩
 have h63':((ty.kind:Int) == 63)=false:=by simp;omega
 by_cases h123:ty.kind=123
 ·have h123':((ty.kind:Int) == 123)=true:=by simp[h123]
  have hr':Hid (enc false t (n+1) ty j=za0 (enc false t n) t ty.fields 123 j xe):=by show _=_;rw[enc,if_neg h105,if_neg h108,if_neg h115,if_neg h60,if_neg h91,if_neg h63,if_pos h123]
  obtain⟨hl1,hl2,hl3⟩:=hlf;have hrf:=fun o=>(hr.keep (hB o)).flds.2.2;clear h105 h108 h115 h60 h91 h63 h123 hr hl3;cases hx:za0 (enc false t n) t ty.fields 123 j xe with
  |none =>
   have hcall:∀ o,Calls Tryz.prog 291 #[.slice af lf cf,.string t,.int .i64 j] (w.alloc o) fun e w'=>e=.returned (.tuple #[.string xe,.int .i64 j,.bool false])/\Below (w.alloc o).heap.size (w.alloc o) w':=fun o=>by have:=zom IH ht hn ty.fields j (w.alloc o) af lf cf hj hl1 hl2 (hrf o);rw[hx]at this;exact this
   clear hl1 hl2 hrf
   go_enter Tryz.func238,Tryz.ntmps238
   go_wp2_with (go_at_call 291;refine(hcall _).mono ?_;rintro e w' ⟨rfl,hbw⟩)
   go_ret3
   rw[hr'.out,hx];exact⟨rfl,(hB _).trans (hbw.mono (by simp))⟩
  |some p =>
   obtain⟨d,k⟩:=p;have hcall:∀ o,Calls Tryz.prog 291 #[.slice af lf cf,.string t,.int .i64 j] (w.alloc o) fun e w'=>e=.returned (.tuple #[.string d,.int .i64 k,.bool true])/\Below (w.alloc o).heap.size (w.alloc o) w':=fun o=>by have:=zom IH ht hn ty.fields j (w.alloc o) af lf cf hj hl1 hl2 (hrf o);rw[hx]at this;exact this
   clear hl1 hl2 hrf
   go_enter Tryz.func238,Tryz.ntmps238
   go_wp2_with (go_at_call 291;refine(hcall _).mono ?_;rintro e w' ⟨rfl,hbw⟩)
   go_ret3
   rw[hr'.out,hx];exact⟨rfl,(hB _).trans (hbw.mono (by simp))⟩
 have h123':((ty.kind:Int) == 123)=false:=by simp;omega
 have hr':Hid (enc false t (n+1) ty j=none):=by show _=_;rw[enc,if_neg h105,if_neg h108,if_neg h115,if_neg h60,if_neg h91,if_neg h63,if_neg h123]
 clear h105 h108 h115 h60 h91 h63 h123 hr hlf
 go_enter Tryz.func238,Tryz.ntmps238
 go_wp2_with fail
 go_ret3
 rw[hr'.out];exact⟨rfl,hB _⟩
theorem zkc {t:ByteArray}(ht:t.size<=4096):∀ n,n<=101->EncAtOK n t
 |0,_=>fun _ _ _ _ _ _ _ _ _ _ h=>h.elim
 |n+1,hn=>zwi (zkc ht n (by omega)) ht (by omega)
def RepB (S:Nat->Prop):Nat->World->Option Addr->Nat->Nat->Option Addr->Nat->Nat->Ty->Prop
 |0,_,_,_,_,_,_,_,_=>False
 |n+1,w,ai,li,ci,af,lf,cf,ty=>ty.letters.size<=8/\ty.fields.length<=9000000/\lf=ty.fields.length/\((ty.kind=91\/ty.kind=63->ty.inner≠[])/\(ty.kind=123->ty.fields≠[])) /\
   ((ty.inner=[]/\ai=none/\li=0/\ci=0) \/
    ∃ t b p1 p2 p3 q1 q2 q3,S b/\ty.inner=[t]/\ai=some ⟨b,0,none⟩/\li=1/\RepB S n w p1 p2 p3 q1 q2 q3 t /\
     w.cell? ⟨b,0,none⟩=some (.int .i64 t.kind)/\w.cell? ⟨b,1,none⟩=some (.string t.letters)/\w.cell? ⟨b,2,none⟩=some (.bool t.op)/\w.cell? ⟨b,3,none⟩=some (.slice p1 p2 p3)/\w.cell? ⟨b,4,none⟩=some (.slice q1 q2 q3)) /\
   ((ty.fields=[]/\af=none/\lf=0/\cf=0) \/
    ∃ g,S g/\ty.fields≠[]/\af=some ⟨g,0,none⟩ /\
     ∀ i f,ty.fields[i]?=some f->∃ p1 p2 p3 q1 q2 q3,RepB S n w p1 p2 p3 q1 q2 q3 f.2.1/\w.cell? ⟨g,i*7,none⟩=some (.int .i64 f.1) /\
      w.cell? ⟨g,i*7+1,none⟩=some (.int .i64 f.2.1.kind)/\w.cell? ⟨g,i*7+2,none⟩=some (.string f.2.1.letters)/\w.cell? ⟨g,i*7+3,none⟩=some (.bool f.2.1.op)/\w.cell? ⟨g,i*7+4,none⟩=some (.slice p1 p2 p3)/\w.cell? ⟨g,i*7+5,none⟩=some (.slice q1 q2 q3) /\
      w.cell? ⟨g,i*7+6,none⟩=some (.string f.2.2))
theorem RepB.keep {S:Nat->Prop}{w w':World}(hb:∀ b o v,S b->w.cell? ⟨b,o,none⟩=some v->w'.cell? ⟨b,o,none⟩=some v):∀ {n:Nat} {ai af:Option Addr} {li ci lf cf:Nat} {ty:Ty},RepB S n w ai li ci af lf cf ty->RepB S n w' ai li ci af lf cf ty
 |0,_,_,_,_,_,_,_,h=>h
 |n+1,ai,af,li,ci,lf,cf,ty,h=>by
  obtain⟨hl,hn,hlf,hk,hi,hf⟩:=h;refine⟨hl,hn,hlf,hk,?_,?_⟩
  ·rcases hi with hi|⟨t,b,p1,p2,p3,q1,q2,q3,h0,h1,h2,h2',h3,k0,k1,k2,k3,k4⟩
   ·exact .inl hi
   ·exact .inr ⟨t,b,p1,p2,p3,q1,q2,q3,h0,h1,h2,h2',RepB.keep hb h3,hb _ _ _ h0 k0,hb _ _ _ h0 k1,hb _ _ _ h0 k2,hb _ _ _ h0 k3,hb _ _ _ h0 k4⟩
  ·rcases hf with hf|⟨g,h0,h0',h1,h2⟩
   ·exact .inl hf
   ·refine .inr ⟨g,h0,h0',h1,fun i f hi=>?_⟩;obtain⟨p1,p2,p3,q1,q2,q3,h3,k0,k1,k2,k3,k4,k5,k6⟩:=h2 i f hi;exact⟨p1,p2,p3,q1,q2,q3,RepB.keep hb h3,hb _ _ _ h0 k0,hb _ _ _ h0 k1,hb _ _ _ h0 k2,hb _ _ _ h0 k3,hb _ _ _ h0 k4,hb _ _ _ h0 k5,hb _ _ _ h0 k6⟩
theorem RepB.imp {S S':Nat->Prop}{w:World}(hS:∀ b,b<w.heap.size->S b->S' b):∀ {n:Nat} {ai af:Option Addr} {li ci lf cf:Nat} {ty:Ty},RepB S n w ai li ci af lf cf ty->RepB S' n w ai li ci af lf cf ty
 |0,_,_,_,_,_,_,_,h=>h
 |n+1,ai,af,li,ci,lf,cf,ty,h=>by
  obtain⟨hl,hn,hlf,hk,hi,hf⟩:=h;refine⟨hl,hn,hlf,hk,?_,?_⟩
  ·rcases hi with hi|⟨t,b,p1,p2,p3,q1,q2,q3,h0,h1,h2,h2',h3,h4⟩
   ·exact .inl hi
   ·exact .inr ⟨t,b,p1,p2,p3,q1,q2,q3,hS b (zag h4.1) h0,h1,h2,h2',RepB.imp hS h3,h4⟩
  ·rcases hf with hf|⟨g,h0,h0',h1,h2⟩
   ·exact .inl hf
   ·have hg:g<w.heap.size:=by
     rcases hfs:ty.fields with _|⟨f,fs⟩
     ·exact absurd hfs h0'
     ·obtain⟨_,_,_,_,_,_,_,h4⟩:=h2 0 f (by rw[hfs];rfl);exact zag h4.1
    refine .inr ⟨g,hS g hg h0,h0',h1,fun i f hi=>?_⟩;obtain⟨p1,p2,p3,q1,q2,q3,h3,h4⟩:=h2 i f hi;exact⟨p1,p2,p3,q1,q2,q3,RepB.imp hS h3,h4⟩
theorem RepB.rep {S:Nat->Prop}{w:World}:∀ {n:Nat} {ai af:Option Addr} {li ci lf cf:Nat} {ty:Ty},RepB S n w ai li ci af lf cf ty->Rep n w ai li ci af lf cf ty
 |0,_,_,_,_,_,_,_,h=>h
 |n+1,ai,af,li,ci,lf,cf,ty,h=>by
  obtain⟨hl,hn,hlf,hk,hi,hf⟩:=h;refine⟨hl,hn,hlf,hk,?_,?_⟩
  ·rcases hi with hi|⟨t,b,p1,p2,p3,q1,q2,q3,h0,h1,h2,h2',h3,h4⟩
   ·exact .inl hi
   ·exact .inr ⟨t,b,p1,p2,p3,q1,q2,q3,h1,h2,h2',RepB.rep h3,h4⟩
  ·rcases hf with hf|⟨g,h0,h0',h1,h2⟩
   ·exact .inl hf
   ·refine .inr ⟨g,h1,fun i f hi=>?_⟩;obtain⟨p1,p2,p3,q1,q2,q3,h3,h4⟩:=h2 i f hi;exact⟨p1,p2,p3,q1,q2,q3,RepB.rep h3,h4⟩
theorem zer {w:World}{b o p q:Nat}{v u:Value}(h:w.cell? ⟨b,o,none⟩=some v)(hne:b≠p):(w.setCell ⟨p,q,none⟩ u).cell? ⟨b,o,none⟩=some v:=by
 rw[xh (w:=w) (Below.heap_setCell w _ _ _ hne)];exact h
theorem zah {w:World}{b o:Nat}{v:Value}(x:Obj)(h:w.cell? ⟨b,o,none⟩=some v):(w.alloc x).cell? ⟨b,o,none⟩=some v:=by
 rw[xh (w:=w) (Below.heap_alloc w _ _ (zag h))];exact h
theorem zam {w:World}{cs:Array Value}{T:TypeId}{b o:Nat}{v:Value}(hb:w.heap.size=b)(hv:cs[o]?=some v):(w.alloc (.cells cs T)).cell? ⟨b,o,none⟩=some v:=by
 subst hb;rw[cell_of_row _ _ _ cs T _ (heap_alloc_new w _)];exact hv
theorem zb5 (w:World)(o:Obj):(w.alloc o).heap.size=w.heap.size+1:=by simp
theorem zrz {w:World}{p:Nat}{v0 v1 v2 v3 v4:Value}:(((((w.setCell ⟨p,0,none⟩ v0).setCell ⟨p,1,none⟩ v1).setCell ⟨p,2,none⟩ v2).setCell ⟨p,3,none⟩ v3).setCell ⟨p,4,none⟩ v4).heap.size=w.heap.size:=by
 simp[World.setCell]
theorem Below.alloc' {a w:World}(h:Below a.heap.size a w)(o:Obj):Below a.heap.size a (w.alloc o):=h.alloc h.size o
theorem Below.set5 {a w:World}(h:Below a.heap.size a w){p:Nat}(hp:a.heap.size<=p){v0 v1 v2 v3 v4:Value}:Below a.heap.size a (((((w.setCell ⟨p,0,none⟩ v0).setCell ⟨p,1,none⟩ v1).setCell ⟨p,2,none⟩ v2).setCell ⟨p,3,none⟩ v3).setCell ⟨p,4,none⟩ v4) :=
 ((((h.setCell hp v0).setCell hp v1).setCell hp v2).setCell hp v3).setCell hp v4
theorem zco {w:World}{b o p:Nat}{v v0 v1 v2 v3 v4:Value}(h:w.cell? ⟨b,o,none⟩=some v)(hne:b≠p):(((((w.setCell ⟨p,0,none⟩ v0).setCell ⟨p,1,none⟩ v1).setCell ⟨p,2,none⟩ v2).setCell ⟨p,3,none⟩ v3).setCell ⟨p,4,none⟩ v4).cell? ⟨b,o,none⟩=some v :=
 zer (zer (zer (zer (zer h hne) hne) hne) hne) hne
def PRet (B n:Nat)(r:Option (Ty×Nat))(e:Ending)(w':World):Prop :=
 match r with
 |some (ty,k)=>∃ ai li ci af lf cf,e=.returned (.tuple #[.agg #[.int .i64 ty.kind,.string ty.letters,.bool ty.op,.slice ai li ci,.slice af lf cf],.int .i64 k,.bool true])/\RepB (fun b=>B<=b) n w' ai li ci af lf cf ty
 |none=>∃ k':Nat,e=.returned (.tuple #[.agg #[.int .i64 0,.string xe,.bool false,.slice none 0 0,.slice none 0 0],.int .i64 k',.bool false])
def ParseTypeOK (n:Nat)(s:ByteArray):Prop:=∀ (i:Nat) (w:World),i<=s.size->s.size<=i+n ->
 Calls Tryz.prog 226 #[.string s,.int .i64 i] w fun e w'=>PRet w.heap.size n (zae false s n i) e w'/\Below w.heap.size w w'
theorem ParseTypeOK.no {n:Nat}{s:ByteArray}(IH:ParseTypeOK n s){i:Nat}(w:World)(hi:i<=s.size)(hn:s.size<=i+n)(hx:zae false s n i=none) :
 Calls Tryz.prog 226 #[.string s,.int .i64 i] w fun e w'=>∃ k':Nat,e=.returned (.tuple #[.agg #[.int .i64 0,.string xe,.bool false,.slice none 0 0,.slice none 0 0],.int .i64 k',.bool false])/\Below w.heap.size w w':=by
 refine(IH i w hi hn).mono ?_;rintro e w' ⟨h1,h2⟩;rw[hx]at h1;obtain⟨k',h1⟩:=h1;exact⟨k',h1,h2⟩
theorem ParseTypeOK.yes {n:Nat}{s:ByteArray}(IH:ParseTypeOK n s){i:Nat}(w:World)(hi:i<=s.size)(hn:s.size<=i+n){ty:Ty}{k:Nat}(hx:zae false s n i=some (ty,k)) :
 Calls Tryz.prog 226 #[.string s,.int .i64 i] w fun e w'=>∃ ai li ci af lf cf,e=.returned (.tuple #[.agg #[.int .i64 ty.kind,.string ty.letters,.bool ty.op,.slice ai li ci,.slice af lf cf],.int .i64 k,.bool true])/\RepB (fun b=>w.heap.size<=b) n w' ai li ci af lf cf ty/\Below w.heap.size w w':=by
 refine(IH i w hi hn).mono ?_;rintro e w' ⟨h1,h2⟩;rw[hx]at h1;obtain⟨ai,li,ci,af,lf,cf,h1,h3⟩:=h1;exact⟨ai,li,ci,af,lf,cf,h1,h3,h2⟩
theorem zh7 (s:ByteArray)(a:Nat):∀ m e,e<=lEnd s a m e/\lEnd s a m e<=e+m
 |0,e=>by simp[lEnd]
 |m+1,e=>by
  rw[lEnd];split
  ·have:=zh7 s a m (e+1);omega
  ·omega
theorem zz0 {n:Nat}{s:ByteArray}(IH:ParseTypeOK n s)(hs:s.size<=4096)(a:Nat)(w:World)(ha:a<=s.size)(hn:s.size<=a+n)(hbd:∀ ty k,zae false s n a=some (ty,k)->k<=s.size) :
  Calls Tryz.prog 278 #[.string s,.int .i64 a] w fun e w'=>PRet w.heap.size (n+1) (zcd (zae false s n) s a) e w'/\Below w.heap.size w w':=by
 have _hs:s.size<=9000000:=by omega
 have hB:∀ o,Below w.heap.size w (w.alloc o):=fun o=>(Below.refl _ _).alloc (xf _) _;cases hx:zae false s n a with
 |none =>
  have hr':Hid (zcd (zae false s n) s a=none):=by show _=_;unfold zcd;rw[hx]
  have hcall:=fun w=>IH.no w ha hn hx;clear hx hbd
  go_enter Tryz.func278,Tryz.ntmps278
  go_wp2_with (go_at_call 226;refine(hcall _).mono ?_;rintro e w1 ⟨k',rfl,hb1⟩;obtain⟨hc1,hf1⟩:=zap hb1;have hz1:w.heap.size<w1.heap.size:=(by have:=hb1.size;simp at this;omega))
  refine bodyPost_ret (v:=.tuple #[.agg #[.int .i64 0,.string xe,.bool false,.slice none 0 0,.slice none 0 0],.int .i64 a,.bool false]) (by simp[results,Tryz.results278,go_sem,hc1,hz1];rfl) rfl ?_;rw[hr'.out];refine⟨⟨a,rfl⟩,?_⟩;have hb0:Below w.heap.size w w1:=(hB _).trans (hb1.mono (by simp));exact Below.alloc' (Below.set5 hb0 (xf _)) _
 |some p =>
  obtain⟨ty,k⟩:=p;have hk:=hbd ty k hx;have hcall:=fun w=>IH.yes w ha hn hx;by_cases h93:bAt s k=93
  ·have h93':(bAt s k != 93)=false:=by simp[h93]
   have hr':Hid (zcd (zae false s n) s a=some (⟨91,xe,false,[ty],[]⟩,k+1)):=by show _=_;unfold zcd;rw[hx];simp only[if_pos h93]
   clear hx hbd h93
   go_enter Tryz.func278,Tryz.ntmps278
   go_wp2_with (first|(go_at_call 226;refine(hcall _).mono ?_;rintro e w1 ⟨ai,li,ci,af,lf,cf,rfl,hr1,hb1⟩;obtain⟨hc1,hf1⟩:=zap hb1;have hz1:w.heap.size<w1.heap.size:=(by have:=hb1.size;simp at this;omega))|(go_at_call 245;refine(zan _ _ _ (by omega) _hs).mono ?_;rintro e w' ⟨rfl,rfl⟩))
   refine bodyPost_ret (v:=.tuple #[.agg #[.int .i64 91,.string xe,.bool false,.slice (some ⟨w1.heap.size+1,0,none⟩) 1 1,.slice none 0 0],.int .i64 (k+1:Nat),.bool true]) (by simp[results,Tryz.results278,go_sem,hc1,hz1];rfl) rfl ?_;rw[hr'.out];have hb0:Below w.heap.size w w1:=(hB _).trans (hb1.mono (by simp));refine⟨⟨_,_,_,_,_,_,rfl,?_⟩,Below.alloc' (Below.alloc' (Below.set5 hb0 (xf _)) _) _⟩;have hkeep:=hr1.keep (w':=((((((w1.setCell ⟨w.heap.size,0,none⟩ (.int .i64 91)).setCell ⟨w.heap.size,1,none⟩ (.string ⟨#[]⟩)).setCell ⟨w.heap.size,2,none⟩ (.bool false)).setCell ⟨w.heap.size,3,none⟩ (.slice (some ⟨w1.heap.size+1,0,none⟩) 1 1)).setCell ⟨w.heap.size,4,none⟩ (.slice none 0 0)).alloc (.cells #[.int .i64 ty.kind,.string ty.letters,.bool ty.op,.slice ai li ci,.slice af lf cf] 201)).alloc (.cells #[.int .i64 ty.kind,.string ty.letters,.bool ty.op,.slice ai li ci,.slice af lf cf] 201))
    (fun b o v hb h=>zah _ (zah _ (zco h (by simp at hb;omega))))
   refine⟨xg _,xg _,rfl,⟨fun _=>by simp,fun h=>by simp at h⟩,.inr ⟨ty,w1.heap.size+1,ai,li,ci,af,lf,cf,(by show w.heap.size<=w1.heap.size+1;omega),rfl,rfl,rfl,hkeep.imp (fun b _ h=>by simp at h;omega),?_,?_,?_,?_,?_⟩,.inl ⟨rfl,rfl,rfl,rfl⟩⟩
   all_goals exact zam (by rw[zb5,zrz]) rfl
  ·have h93':(bAt s k != 93)=true:=by simpa using h93
   have hr':Hid (zcd (zae false s n) s a=none):=by show _=_;unfold zcd;rw[hx];simp only[if_neg h93]
   clear hx hbd h93
   go_enter Tryz.func278,Tryz.ntmps278
   go_wp2_with (first|(go_at_call 226;refine(hcall _).mono ?_;rintro e w1 ⟨ai,li,ci,af,lf,cf,rfl,hr1,hb1⟩;obtain⟨hc1,hf1⟩:=zap hb1;have hz1:w.heap.size<w1.heap.size:=(by have:=hb1.size;simp at this;omega))|(go_at_call 245;refine(zan _ _ _ (by omega) _hs).mono ?_;rintro e w' ⟨rfl,rfl⟩))
   refine bodyPost_ret (v:=.tuple #[.agg #[.int .i64 0,.string xe,.bool false,.slice none 0 0,.slice none 0 0],.int .i64 a,.bool false]) (by simp[results,Tryz.results278,go_sem,hc1,hz1];rfl) rfl ?_;rw[hr'.out];refine⟨⟨a,rfl⟩,?_⟩;have hb0:Below w.heap.size w w1:=(hB _).trans (hb1.mono (by simp));exact Below.alloc' (Below.set5 hb0 (xf _)) _
theorem zz1 {n:Nat}{s:ByteArray}(IH:ParseTypeOK n s)(hs:s.size<=4096)(a:Nat)(w:World)(ha:a<=s.size)(hn:s.size<=a+n)(hbd:∀ ty k,zae false s n a=some (ty,k)->k<=s.size) :
  Calls Tryz.prog 279 #[.string s,.int .i64 a] w fun e w'=>PRet w.heap.size (n+1) (zce (zae false s n) a) e w'/\Below w.heap.size w w':=by
 have _hs:s.size<=9000000:=by omega
 have hB:∀ o,Below w.heap.size w (w.alloc o):=fun o=>(Below.refl _ _).alloc (xf _) _;cases hx:zae false s n a with
 |none =>
  have hr':Hid (zce (zae false s n) a=none):=by show _=_;unfold zce;rw[hx]
  have hcall:=fun w=>IH.no w ha hn hx;clear hx hbd
  go_enter Tryz.func279,Tryz.ntmps279
  go_wp2_with (go_at_call 226;refine(hcall _).mono ?_;rintro e w1 ⟨k',rfl,hb1⟩;obtain⟨hc1,hf1⟩:=zap hb1;have hz1:w.heap.size<w1.heap.size:=(by have:=hb1.size;simp at this;omega))
  refine bodyPost_ret (v:=.tuple #[.agg #[.int .i64 0,.string xe,.bool false,.slice none 0 0,.slice none 0 0],.int .i64 a,.bool false]) (by simp[results,Tryz.results279,go_sem,hc1,hz1];rfl) rfl ?_;rw[hr'.out];refine⟨⟨a,rfl⟩,?_⟩;have hb0:Below w.heap.size w w1:=(hB _).trans (hb1.mono (by simp));exact Below.alloc' (Below.set5 hb0 (xf _)) _
 |some p =>
  obtain⟨ty,k⟩:=p;have hk:=hbd ty k hx;have hcall:=fun w=>IH.yes w ha hn hx;by_cases h93:¬ ty.kind=63
  ·have h93':((ty.kind:Int) == 63)=false:=by simp;omega
   have hr':Hid (zce (zae false s n) a=some (⟨63,xe,false,[ty],[]⟩,k)):=by show _=_;unfold zce;rw[hx];simp only[if_neg h93]
   clear hx hbd h93
   go_enter Tryz.func279,Tryz.ntmps279
   go_wp2_with (first|(go_at_call 226;refine(hcall _).mono ?_;rintro e w1 ⟨ai,li,ci,af,lf,cf,rfl,hr1,hb1⟩;obtain⟨hc1,hf1⟩:=zap hb1;have hz1:w.heap.size<w1.heap.size:=(by have:=hb1.size;simp at this;omega))|(go_at_call 245;refine(zan _ _ _ (by omega) _hs).mono ?_;rintro e w' ⟨rfl,rfl⟩))
   refine bodyPost_ret (v:=.tuple #[.agg #[.int .i64 63,.string xe,.bool false,.slice (some ⟨w1.heap.size+1,0,none⟩) 1 1,.slice none 0 0],.int .i64 k,.bool true]) (by simp[results,Tryz.results279,go_sem,hc1,hz1];rfl) rfl ?_;rw[hr'.out];have hb0:Below w.heap.size w w1:=(hB _).trans (hb1.mono (by simp));refine⟨⟨_,_,_,_,_,_,rfl,?_⟩,Below.alloc' (Below.alloc' (Below.set5 hb0 (xf _)) _) _⟩;have hkeep:=hr1.keep (w':=((((((w1.setCell ⟨w.heap.size,0,none⟩ (.int .i64 63)).setCell ⟨w.heap.size,1,none⟩ (.string ⟨#[]⟩)).setCell ⟨w.heap.size,2,none⟩ (.bool false)).setCell ⟨w.heap.size,3,none⟩ (.slice (some ⟨w1.heap.size+1,0,none⟩) 1 1)).setCell ⟨w.heap.size,4,none⟩ (.slice none 0 0)).alloc (.cells #[.int .i64 ty.kind,.string ty.letters,.bool ty.op,.slice ai li ci,.slice af lf cf] 201)).alloc (.cells #[.int .i64 ty.kind,.string ty.letters,.bool ty.op,.slice ai li ci,.slice af lf cf] 201))
    (fun b o v hb h=>zah _ (zah _ (zco h (by simp at hb;omega))))
   refine⟨xg _,xg _,rfl,⟨fun _=>by simp,fun h=>by simp at h⟩,.inr ⟨ty,w1.heap.size+1,ai,li,ci,af,lf,cf,(by show w.heap.size<=w1.heap.size+1;omega),rfl,rfl,rfl,hkeep.imp (fun b _ h=>by simp at h;omega),?_,?_,?_,?_,?_⟩,.inl ⟨rfl,rfl,rfl,rfl⟩⟩
   all_goals exact zam (by rw[zb5,zrz]) rfl
  ·have h93':((ty.kind:Int) == 63)=true:=by simp;omega
   have hr':Hid (zce (zae false s n) a=none):=by show _=_;unfold zce;rw[hx];simp only[if_pos (Decidable.not_not.mp h93)]
   clear hx hbd h93
   go_enter Tryz.func279,Tryz.ntmps279
   go_wp2_with (first|(go_at_call 226;refine(hcall _).mono ?_;rintro e w1 ⟨ai,li,ci,af,lf,cf,rfl,hr1,hb1⟩;obtain⟨hc1,hf1⟩:=zap hb1;have hz1:w.heap.size<w1.heap.size:=(by have:=hb1.size;simp at this;omega))|(go_at_call 245;refine(zan _ _ _ (by omega) _hs).mono ?_;rintro e w' ⟨rfl,rfl⟩))
   refine bodyPost_ret (v:=.tuple #[.agg #[.int .i64 0,.string xe,.bool false,.slice none 0 0,.slice none 0 0],.int .i64 a,.bool false]) (by simp[results,Tryz.results279,go_sem,hc1,hz1];rfl) rfl ?_;rw[hr'.out];refine⟨⟨a,rfl⟩,?_⟩;have hb0:Below w.heap.size w w1:=(hB _).trans (hb1.mono (by simp));exact Below.alloc' (Below.set5 hb0 (xf _)) _
theorem RepB.plain {S:Nat->Prop}{n:Nat}{w:World}{ty:Ty}(hl:ty.letters.size<=8)(hk:¬ (ty.kind=91\/ty.kind=63\/ty.kind=123))(hi:ty.inner=[])(hf:ty.fields=[]):RepB S (n+1) w none 0 0 none 0 0 ty :=
 ⟨hl,by rw[hf];exact xg _,by rw[hf];rfl,⟨fun h=>absurd (by omega) hk,fun h=>absurd (by omega) hk⟩,.inl ⟨hi,rfl,rfl,rfl⟩,.inl ⟨hf,rfl,rfl,rfl⟩⟩
theorem zzx (n:Nat){s:ByteArray}(hs:s.size<=4096)(a:Nat)(w:World)(ha:a<=s.size) :
  Calls Tryz.prog 277 #[.string s,.int .i64 a] w fun e w'=>PRet w.heap.size (n+1) (zb4 s a) e w'/\Below w.heap.size w w':=by
 have _hs:s.size<=9000000:=by omega
 have hB:∀ o,Below w.heap.size w (w.alloc o):=fun o=>(Below.refl _ _).alloc (xf _) _;obtain⟨E,hE⟩:∃ E,E=lEnd s a (s.size-a) a:=⟨_,rfl⟩;have hle:=zh7 s a (s.size-a) a;rw[<- hE]at hle;obtain⟨hle1,hle2⟩:=hle;have hP:zb4 s a=if E-a<1\/8<E-a then none
   else if bAt s E=43 then (if bAt s (E+1)=62 then some (⟨60,s.extract a E,true,[],[]⟩,E+2) else none)
   else if bAt s E=62 then some (⟨60,s.extract a E,false,[],[]⟩,E+1) else none:=by rw[hE];rfl
 have hend:∀ w,Calls Tryz.prog 302 #[.string s,.int .i64 a] w fun e w'=>e=.returned (.int .i64 E)/\w'=w:=fun w=>by rw[hE];exact zyc s a w _hs ha
 have hx:=size_extract s a E hle1 (by omega);have HP:Hid (zb4 s a=_):=hP;clear hE hP;by_cases h1:E-a<1\/8<E-a
 ·have hr':Hid (zb4 s a=none):=by show _=_;rw[HP.out,if_pos h1]
  clear HP;rcases h1 with h1|h1
  ·have h1':(s.extract a E).size<1:=by omega
   go_enter Tryz.func277,Tryz.ntmps277
   go_wp2_with (first|(go_at_call 245;refine(zan _ _ _ (by omega) _hs).mono ?_;rintro e w' ⟨rfl,rfl⟩)|(go_at_call 302;refine(hend _).mono ?_;rintro e w' ⟨rfl,rfl⟩)|(go_at_call 247;refine(zcq s a E _ hle1 (by omega) _hs).mono ?_;rintro e w' ⟨rfl,rfl⟩))
   refine bodyPost_ret (v:=.tuple #[.agg #[.int .i64 0,.string xe,.bool false,.slice none 0 0,.slice none 0 0],.int .i64 a,.bool false]) (by simp[results,Tryz.results277,go_sem];rfl) rfl ?_;rw[hr'.out];exact⟨⟨a,rfl⟩,hB _⟩
  ·have h1':¬ (s.extract a E).size<1:=by omega
   have h1'':8<(s.extract a E).size:=by omega
   go_enter Tryz.func277,Tryz.ntmps277
   go_wp2_with (first|(go_at_call 245;refine(zan _ _ _ (by omega) _hs).mono ?_;rintro e w' ⟨rfl,rfl⟩)|(go_at_call 302;refine(hend _).mono ?_;rintro e w' ⟨rfl,rfl⟩)|(go_at_call 247;refine(zcq s a E _ hle1 (by omega) _hs).mono ?_;rintro e w' ⟨rfl,rfl⟩))
   refine bodyPost_ret (v:=.tuple #[.agg #[.int .i64 0,.string xe,.bool false,.slice none 0 0,.slice none 0 0],.int .i64 a,.bool false]) (by simp[results,Tryz.results277,go_sem];rfl) rfl ?_;rw[hr'.out];exact⟨⟨a,rfl⟩,hB _⟩
 ·have h1':¬ (s.extract a E).size<1:=by omega
  have h1'':¬ 8<(s.extract a E).size:=by omega
  by_cases h2:bAt s E=43
  ·have h2':(bAt s E == 43)=true:=by simp[h2]
   by_cases h3:bAt s (E+1)=62
   ·have h3':(bAt s (E+1) != 62)=false:=by simp[h3]
    have hr':Hid (zb4 s a=some (⟨60,s.extract a E,true,[],[]⟩,E+2)):=by show _=_;rw[HP.out,if_neg h1,if_pos h2,if_pos h3]
    clear HP h2 h3
    go_enter Tryz.func277,Tryz.ntmps277
    go_wp2_with (first|(go_at_call 245;refine(zan _ _ _ (by omega) _hs).mono ?_;rintro e w' ⟨rfl,rfl⟩)|(go_at_call 302;refine(hend _).mono ?_;rintro e w' ⟨rfl,rfl⟩)|(go_at_call 247;refine(zcq s a E _ hle1 (by omega) _hs).mono ?_;rintro e w' ⟨rfl,rfl⟩))
    refine bodyPost_ret (v:=.tuple #[.agg #[.int .i64 60,.string (s.extract a E),.bool true,.slice none 0 0,.slice none 0 0],.int .i64 (E+2:Nat),.bool true]) (by simp[results,Tryz.results277,go_sem];try omega) rfl ?_;rw[hr'.out];exact⟨⟨_,_,_,_,_,_,rfl,RepB.plain (by show (s.extract a E).size<=8;omega) (by simp) rfl rfl⟩,hB _⟩
   ·have h3':(bAt s (E+1) != 62)=true:=by simpa using h3
    have hr':Hid (zb4 s a=none):=by show _=_;rw[HP.out,if_neg h1,if_pos h2,if_neg h3]
    clear HP h2 h3
    go_enter Tryz.func277,Tryz.ntmps277
    go_wp2_with (first|(go_at_call 245;refine(zan _ _ _ (by omega) _hs).mono ?_;rintro e w' ⟨rfl,rfl⟩)|(go_at_call 302;refine(hend _).mono ?_;rintro e w' ⟨rfl,rfl⟩)|(go_at_call 247;refine(zcq s a E _ hle1 (by omega) _hs).mono ?_;rintro e w' ⟨rfl,rfl⟩))
    refine bodyPost_ret (v:=.tuple #[.agg #[.int .i64 0,.string xe,.bool false,.slice none 0 0,.slice none 0 0],.int .i64 a,.bool false]) (by simp[results,Tryz.results277,go_sem];rfl) rfl ?_;rw[hr'.out];exact⟨⟨a,rfl⟩,hB _⟩
  ·have h2':(bAt s E == 43)=false:=by simpa using h2
   by_cases h3:bAt s E=62
   ·have h3':(bAt s E != 62)=false:=by simp[h3]
    have hr':Hid (zb4 s a=some (⟨60,s.extract a E,false,[],[]⟩,E+1)):=by show _=_;rw[HP.out,if_neg h1,if_neg h2,if_pos h3]
    clear HP h2 h3
    go_enter Tryz.func277,Tryz.ntmps277
    go_wp2_with (first|(go_at_call 245;refine(zan _ _ _ (by omega) _hs).mono ?_;rintro e w' ⟨rfl,rfl⟩)|(go_at_call 302;refine(hend _).mono ?_;rintro e w' ⟨rfl,rfl⟩)|(go_at_call 247;refine(zcq s a E _ hle1 (by omega) _hs).mono ?_;rintro e w' ⟨rfl,rfl⟩))
    refine bodyPost_ret (v:=.tuple #[.agg #[.int .i64 60,.string (s.extract a E),.bool false,.slice none 0 0,.slice none 0 0],.int .i64 (E+1:Nat),.bool true]) (by simp[results,Tryz.results277,go_sem];try omega) rfl ?_;rw[hr'.out];exact⟨⟨_,_,_,_,_,_,rfl,RepB.plain (by show (s.extract a E).size<=8;omega) (by simp) rfl rfl⟩,hB _⟩
   ·have h3':(bAt s E != 62)=true:=by simpa using h3
    have hr':Hid (zb4 s a=none):=by show _=_;rw[HP.out,if_neg h1,if_neg h2,if_neg h3]
    clear HP h2 h3
    go_enter Tryz.func277,Tryz.ntmps277
    go_wp2_with (first|(go_at_call 245;refine(zan _ _ _ (by omega) _hs).mono ?_;rintro e w' ⟨rfl,rfl⟩)|(go_at_call 302;refine(hend _).mono ?_;rintro e w' ⟨rfl,rfl⟩)|(go_at_call 247;refine(zcq s a E _ hle1 (by omega) _hs).mono ?_;rintro e w' ⟨rfl,rfl⟩))
    refine bodyPost_ret (v:=.tuple #[.agg #[.int .i64 0,.string xe,.bool false,.slice none 0 0,.slice none 0 0],.int .i64 a,.bool false]) (by simp[results,Tryz.results277,go_sem];rfl) rfl ?_;rw[hr'.out];exact⟨⟨a,rfl⟩,hB _⟩
end Go.Proofs.YtkkekopomiehlabGreatDoor
