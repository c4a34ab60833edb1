import Derived.Test.YtkkekopomiehlabHEncBd
set_option linter.unusedVariables false
set_option linter.unusedSimpArgs false
set_option maxHeartbeats 40000000
namespace Go.Proofs.Ytkkekopomiehlab
section
open Go.RowKit
theorem zlm {n : Nat} {t : ByteArray} (IH : EncAtOK n t) (ht : t.size <= 4096) (hn : n <= 100) : EncAtOK (n + 1) t:=by
 intro ty j w ai af li ci lf cf hj hr
 have _hs : t.size <= 9000000:=by omega
 have hB : ∀ o,Below w.heap.size w (w.alloc o):=fun o => (Below.refl _ _).alloc (Nat.le_refl _) _
 have hl8 : ty.letters.size <= 8:=hr.1
 have hlf:=hr.flds
 by_cases h105 : ty.kind = 105
 ·have h105' : ((ty.kind : Int) == 105) = true:=by simp [h105]
  have hr' : Hid (enc false t (n + 1) ty j = zaz false (-2147483648) 2147483647 t j):=by show _ = _;rw [enc,if_pos h105]
  clear h105 hr hlf
  go_enter Try.func84,Try.ntmps84
  cases hx : zaz false (-2147483648) 2147483647 t j with
  | none =>
   have hcall : ∀ o,Calls Try.prog 85 #[.int .i64 (-2147483648),.int .i64 2147483647,.string t,.int .i64 j] (w.alloc o) fun e w' => e = .returned (.tuple #[.string ByteArray.empty,.int .i64 j,.bool false]) /\ Below (w.alloc o).heap.size (w.alloc o) w':=fun o => by have:=zec (-2147483648) 2147483647 t j (w.alloc o) _hs hj;rw [hx] at this;exact this
   go_wp2_with (go_at_call 85;refine (hcall _).mono ?_;rintro e w' ⟨rfl,hbw⟩)
   go_ret3
   rw [hr'.out,hx]
   exact ⟨rfl,(hB _).trans (hbw.mono (by simp))⟩
  | some p =>
   obtain ⟨d,k⟩:=p
   have hcall : ∀ o,Calls Try.prog 85 #[.int .i64 (-2147483648),.int .i64 2147483647,.string t,.int .i64 j] (w.alloc o) fun e w' => e = .returned (.tuple #[.string d,.int .i64 k,.bool true]) /\ Below (w.alloc o).heap.size (w.alloc o) w':=fun o => by have:=zec (-2147483648) 2147483647 t j (w.alloc o) _hs hj;rw [hx] at this;exact this
   go_wp2_with (go_at_call 85;refine (hcall _).mono ?_;rintro e w' ⟨rfl,hbw⟩)
   go_ret3
   rw [hr'.out,hx]
   exact ⟨rfl,(hB _).trans (hbw.mono (by simp))⟩
 have h105' : ((ty.kind : Int) == 105) = false:=by simp;omega
 by_cases h108 : ty.kind = 108
 ·have h108' : ((ty.kind : Int) == 108) = true:=by simp [h108]
  have hr' : Hid (enc false t (n + 1) ty j = zaz false (-1000000000000000) 1000000000000000 t j):=by show _ = _;rw [enc,if_neg h105,if_pos h108]
  clear h105 h108 hr hlf
  go_enter Try.func84,Try.ntmps84
  cases hx : zaz false (-1000000000000000) 1000000000000000 t j with
  | none =>
   have hcall : ∀ o,Calls Try.prog 85 #[.int .i64 (-1000000000000000),.int .i64 1000000000000000,.string t,.int .i64 j] (w.alloc o) fun e w' => e = .returned (.tuple #[.string ByteArray.empty,.int .i64 j,.bool false]) /\ Below (w.alloc o).heap.size (w.alloc o) w':=fun o => by have:=zec (-1000000000000000) 1000000000000000 t j (w.alloc o) _hs hj;rw [hx] at this;exact this
   go_wp2_with (go_at_call 85;refine (hcall _).mono ?_;rintro e w' ⟨rfl,hbw⟩)
   go_ret3
   rw [hr'.out,hx]
   exact ⟨rfl,(hB _).trans (hbw.mono (by simp))⟩
  | some p =>
   obtain ⟨d,k⟩:=p
   have hcall : ∀ o,Calls Try.prog 85 #[.int .i64 (-1000000000000000),.int .i64 1000000000000000,.string t,.int .i64 j] (w.alloc o) fun e w' => e = .returned (.tuple #[.string d,.int .i64 k,.bool true]) /\ Below (w.alloc o).heap.size (w.alloc o) w':=fun o => by have:=zec (-1000000000000000) 1000000000000000 t j (w.alloc o) _hs hj;rw [hx] at this;exact this
   go_wp2_with (go_at_call 85;refine (hcall _).mono ?_;rintro e w' ⟨rfl,hbw⟩)
   go_ret3
   rw [hr'.out,hx]
   exact ⟨rfl,(hB _).trans (hbw.mono (by simp))⟩
 have h108' : ((ty.kind : Int) == 108) = false:=by simp;omega
 by_cases h115 : ty.kind = 115
 ·have h115' : ((ty.kind : Int) == 115) = true:=by simp [h115]
  have hr' : Hid (enc false t (n + 1) ty j = zbk t j):=by show _ = _;rw [enc,if_neg h105,if_neg h108,if_pos h115]
  clear h105 h108 h115 hr hlf
  go_enter Try.func84,Try.ntmps84
  cases hx : zbk t j with
  | none =>
   have hcall : ∀ o,Calls Try.prog 86 #[.string t,.int .i64 j] (w.alloc o) fun e w' => e = .returned (.tuple #[.string ByteArray.empty,.int .i64 j,.bool false]) /\ Below (w.alloc o).heap.size (w.alloc o) w':=fun o => by have:=zhj t j (w.alloc o) _hs hj;rw [hx] at this;exact this
   go_wp2_with (go_at_call 86;refine (hcall _).mono ?_;rintro e w' ⟨rfl,hbw⟩)
   go_ret3
   rw [hr'.out,hx]
   exact ⟨rfl,(hB _).trans (hbw.mono (by simp))⟩
  | some p =>
   obtain ⟨d,k⟩:=p
   have hcall : ∀ o,Calls Try.prog 86 #[.string t,.int .i64 j] (w.alloc o) fun e w' => e = .returned (.tuple #[.string d,.int .i64 k,.bool true]) /\ Below (w.alloc o).heap.size (w.alloc o) w':=fun o => by have:=zhj t j (w.alloc o) _hs hj;rw [hx] at this;exact this
   go_wp2_with (go_at_call 86;refine (hcall _).mono ?_;rintro e w' ⟨rfl,hbw⟩)
   go_ret3
   rw [hr'.out,hx]
   exact ⟨rfl,(hB _).trans (hbw.mono (by simp))⟩
 have h115' : ((ty.kind : Int) == 115) = false:=by simp;omega
 by_cases h60 : ty.kind = 60
 ·have h60' : ((ty.kind : Int) == 60) = true:=by simp [h60]
  have hr' : Hid (enc false t (n + 1) ty j = zbr ty.letters t j):=by show _ = _;rw [enc,if_neg h105,if_neg h108,if_neg h115,if_pos h60];rfl
  clear h105 h108 h115 h60 hr hlf
  go_enter Try.func84,Try.ntmps84
  cases hx : zbr ty.letters t j with
  | none =>
   have hcall : ∀ o,Calls Try.prog 87 #[.string ty.letters,.string t,.int .i64 j] (w.alloc o) fun e w' => e = .returned (.tuple #[.string ByteArray.empty,.int .i64 j,.bool false]) /\ Below (w.alloc o).heap.size (w.alloc o) w':=fun o => by have:=zhf ty.letters t j (w.alloc o) _hs hl8 hj;rw [hx] at this;exact this
   go_wp2_with (go_at_call 87;refine (hcall _).mono ?_;rintro e w' ⟨rfl,hbw⟩)
   go_ret3
   rw [hr'.out,hx]
   exact ⟨rfl,(hB _).trans (hbw.mono (by simp))⟩
  | some p =>
   obtain ⟨d,k⟩:=p
   have hcall : ∀ o,Calls Try.prog 87 #[.string ty.letters,.string t,.int .i64 j] (w.alloc o) fun e w' => e = .returned (.tuple #[.string d,.int .i64 k,.bool true]) /\ Below (w.alloc o).heap.size (w.alloc o) w':=fun o => by have:=zhf ty.letters t j (w.alloc o) _hs hl8 hj;rw [hx] at this;exact this
   go_wp2_with (go_at_call 87;refine (hcall _).mono ?_;rintro e w' ⟨rfl,hbw⟩)
   go_ret3
   rw [hr'.out,hx]
   exact ⟨rfl,(hB _).trans (hbw.mono (by simp))⟩
 have h60' : ((ty.kind : Int) == 60) = false:=by simp;omega
 by_cases h91 : ty.kind = 91
 ·have h91' : ((ty.kind : Int) == 91) = true:=by simp [h91]
  have hr' : Hid (enc false t (n + 1) ty j = zbd (enc false t n ty.in) t j):=by show _ = _;rw [enc,if_neg h105,if_neg h108,if_neg h115,if_neg h60,if_pos h91]
  have hne : ty.inner ≠ []:=hr.2.2.2.1.1 (by omega)
  have hin:=fun o => zeg n (w.alloc o) ai af li ci lf cf ty (hr.keep (hB o)) hne
  clear h105 h108 h115 h60 h91 hr hlf
  cases hx : zbd (enc false t n ty.in) t j with
  | none =>
   have hcall : ∀ (w1 : World) p1 p2 p3 q1 q2 q3,Rep n w1 p1 p2 p3 q1 q2 q3 ty.in -> Calls Try.prog 88 #[.agg #[.int .i64 ty.in.kind,.string ty.in.letters,.bool ty.in.op,.slice p1 p2 p3,.slice q1 q2 q3],.string t,.int .i64 j] w1 fun e w' => e = .returned (.tuple #[.string ByteArray.empty,.int .i64 j,.bool false]) /\ Below w1.heap.size w1 w':=fun w1 p1 p2 p3 q1 q2 q3 h1 => by have:=zhg IH ht hn ty.in j w1 p1 q1 p2 p3 q2 q3 hj h1;rw [hx] at this;exact this
   go_enter Try.func84,Try.ntmps84
   go_wp2_with (first | (go_at_call 57;refine (hin _).mono ?_;rintro e w1 ⟨p1,p2,p3,q1,q2,q3,rfl,hr1,hb1⟩) | (go_at_call 88;refine (hcall _ _ _ _ _ _ _ hr1).mono ?_;rintro e w2 ⟨rfl,hb2⟩))
   go_ret3
   rw [hr'.out,hx]
   exact ⟨rfl,(hB _).trans ((hb1.mono (by simp)).trans (hb2.mono (by have:=hb1.size;simp at this;omega)))⟩
  | some p =>
   obtain ⟨d,k⟩:=p
   have hcall : ∀ (w1 : World) p1 p2 p3 q1 q2 q3,Rep n w1 p1 p2 p3 q1 q2 q3 ty.in -> Calls Try.prog 88 #[.agg #[.int .i64 ty.in.kind,.string ty.in.letters,.bool ty.in.op,.slice p1 p2 p3,.slice q1 q2 q3],.string t,.int .i64 j] w1 fun e w' => e = .returned (.tuple #[.string d,.int .i64 k,.bool true]) /\ Below w1.heap.size w1 w':=fun w1 p1 p2 p3 q1 q2 q3 h1 => by have:=zhg IH ht hn ty.in j w1 p1 q1 p2 p3 q2 q3 hj h1;rw [hx] at this;exact this
   go_enter Try.func84,Try.ntmps84
   go_wp2_with (first | (go_at_call 57;refine (hin _).mono ?_;rintro e w1 ⟨p1,p2,p3,q1,q2,q3,rfl,hr1,hb1⟩) | (go_at_call 88;refine (hcall _ _ _ _ _ _ _ hr1).mono ?_;rintro e w2 ⟨rfl,hb2⟩))
   go_ret3
   rw [hr'.out,hx]
   exact ⟨rfl,(hB _).trans ((hb1.mono (by simp)).trans (hb2.mono (by have:=hb1.size;simp at this;omega)))⟩
 have h91' : ((ty.kind : Int) == 91) = false:=by simp;omega
 by_cases h63 : ty.kind = 63
 ·have h63' : ((ty.kind : Int) == 63) = true:=by simp [h63]
  have hr' : Hid (enc false t (n + 1) ty j = zba (enc false t n ty.in) t j):=by show _ = _;rw [enc,if_neg h105,if_neg h108,if_neg h115,if_neg h60,if_neg h91,if_pos h63]
  have hne : ty.inner ≠ []:=hr.2.2.2.1.1 (by omega)
  have hin:=fun o => zeg n (w.alloc o) ai af li ci lf cf ty (hr.keep (hB o)) hne
  clear h105 h108 h115 h60 h91 h63 hr hlf
  cases hx : zba (enc false t n ty.in) t j with
  | none =>
   have hcall : ∀ (w1 : World) p1 p2 p3 q1 q2 q3,Rep n w1 p1 p2 p3 q1 q2 q3 ty.in -> Calls Try.prog 89 #[.agg #[.int .i64 ty.in.kind,.string ty.in.letters,.bool ty.in.op,.slice p1 p2 p3,.slice q1 q2 q3],.string t,.int .i64 j] w1 fun e w' => e = .returned (.tuple #[.string ByteArray.empty,.int .i64 j,.bool false]) /\ Below w1.heap.size w1 w':=fun w1 p1 p2 p3 q1 q2 q3 h1 => by have:=zhh IH ht hn ty.in j w1 p1 q1 p2 p3 q2 q3 hj h1;rw [hx] at this;exact this
   go_enter Try.func84,Try.ntmps84
   go_wp2_with (first | (go_at_call 57;refine (hin _).mono ?_;rintro e w1 ⟨p1,p2,p3,q1,q2,q3,rfl,hr1,hb1⟩) | (go_at_call 89;refine (hcall _ _ _ _ _ _ _ hr1).mono ?_;rintro e w2 ⟨rfl,hb2⟩))
   go_ret3
   rw [hr'.out,hx]
   exact ⟨rfl,(hB _).trans ((hb1.mono (by simp)).trans (hb2.mono (by have:=hb1.size;simp at this;omega)))⟩
  | some p =>
   obtain ⟨d,k⟩:=p
   have hcall : ∀ (w1 : World) p1 p2 p3 q1 q2 q3,Rep n w1 p1 p2 p3 q1 q2 q3 ty.in -> Calls Try.prog 89 #[.agg #[.int .i64 ty.in.kind,.string ty.in.letters,.bool ty.in.op,.slice p1 p2 p3,.slice q1 q2 q3],.string t,.int .i64 j] w1 fun e w' => e = .returned (.tuple #[.string d,.int .i64 k,.bool true]) /\ Below w1.heap.size w1 w':=fun w1 p1 p2 p3 q1 q2 q3 h1 => by have:=zhh IH ht hn ty.in j w1 p1 q1 p2 p3 q2 q3 hj h1;rw [hx] at this;exact this
   go_enter Try.func84,Try.ntmps84
   go_wp2_with (first | (go_at_call 57;refine (hin _).mono ?_;rintro e w1 ⟨p1,p2,p3,q1,q2,q3,rfl,hr1,hb1⟩) | (go_at_call 89;refine (hcall _ _ _ _ _ _ _ hr1).mono ?_;rintro e w2 ⟨rfl,hb2⟩))
   go_ret3
   rw [hr'.out,hx]
   exact ⟨rfl,(hB _).trans ((hb1.mono (by simp)).trans (hb2.mono (by have:=hb1.size;simp at this;omega)))⟩
 have h63' : ((ty.kind : Int) == 63) = false:=by simp;omega
 by_cases h123 : ty.kind = 123
 ·have h123' : ((ty.kind : Int) == 123) = true:=by simp [h123]
  have hr' : Hid (enc false t (n + 1) ty j = zas (enc false t n) t ty.fields 123 j ByteArray.empty):=by show _ = _;rw [enc,if_neg h105,if_neg h108,if_neg h115,if_neg h60,if_neg h91,if_neg h63,if_pos h123]
  obtain ⟨hl1,hl2,hl3⟩:=hlf
  have hrf:=fun o => (hr.keep (hB o)).flds.2.2
  clear h105 h108 h115 h60 h91 h63 h123 hr hl3
  cases hx : zas (enc false t n) t ty.fields 123 j ByteArray.empty with
  | none =>
   have hcall : ∀ o,Calls Try.prog 90 #[.slice af lf cf,.string t,.int .i64 j] (w.alloc o) fun e w' => e = .returned (.tuple #[.string ByteArray.empty,.int .i64 j,.bool false]) /\ Below (w.alloc o).heap.size (w.alloc o) w':=fun o => by have:=zhi IH ht hn ty.fields j (w.alloc o) af lf cf hj hl1 hl2 (hrf o);rw [hx] at this;exact this
   clear hl1 hl2 hrf
   go_enter Try.func84,Try.ntmps84
   go_wp2_with (go_at_call 90;refine (hcall _).mono ?_;rintro e w' ⟨rfl,hbw⟩)
   go_ret3
   rw [hr'.out,hx]
   exact ⟨rfl,(hB _).trans (hbw.mono (by simp))⟩
  | some p =>
   obtain ⟨d,k⟩:=p
   have hcall : ∀ o,Calls Try.prog 90 #[.slice af lf cf,.string t,.int .i64 j] (w.alloc o) fun e w' => e = .returned (.tuple #[.string d,.int .i64 k,.bool true]) /\ Below (w.alloc o).heap.size (w.alloc o) w':=fun o => by have:=zhi IH ht hn ty.fields j (w.alloc o) af lf cf hj hl1 hl2 (hrf o);rw [hx] at this;exact this
   clear hl1 hl2 hrf
   go_enter Try.func84,Try.ntmps84
   go_wp2_with (go_at_call 90;refine (hcall _).mono ?_;rintro e w' ⟨rfl,hbw⟩)
   go_ret3
   rw [hr'.out,hx]
   exact ⟨rfl,(hB _).trans (hbw.mono (by simp))⟩
 have h123' : ((ty.kind : Int) == 123) = false:=by simp;omega
 have hr' : Hid (enc false t (n + 1) ty j = none):=by show _ = _;rw [enc,if_neg h105,if_neg h108,if_neg h115,if_neg h60,if_neg h91,if_neg h63,if_neg h123]
 clear h105 h108 h115 h60 h91 h63 h123 hr hlf
 go_enter Try.func84,Try.ntmps84
 go_wp2_with fail
 go_ret3
 rw [hr'.out]
 exact ⟨rfl,hB _⟩
theorem zhe {t : ByteArray} (ht : t.size <= 4096) : ∀ n,n <= 101 -> EncAtOK n t
 | 0,_ => fun _ _ _ _ _ _ _ _ _ _ h => h.elim
 | n + 1,hn => zlm (zhe ht n (by omega)) ht (by omega)
end
section
open Go.RowKit
def RepB (S : Nat -> Prop) : Nat -> World -> Option Addr -> Nat -> Nat -> Option Addr -> Nat -> Nat -> Ty -> Prop
 | 0,_,_,_,_,_,_,_,_ => False
 | n + 1,w,ai,li,ci,af,lf,cf,ty => ty.letters.size <= 8 /\ ty.fields.length <= 9000000 /\ lf = ty.fields.length /\ ((ty.kind = 91 \/ ty.kind = 63 -> ty.inner ≠ []) /\ (ty.kind = 123 -> ty.fields ≠ [])) /\
   ((ty.inner = [] /\ ai = none /\ li = 0 /\ ci = 0) \/
    ∃ t b p1 p2 p3 q1 q2 q3,S b /\ ty.inner = [t] /\ ai = some ⟨b,0,none⟩ /\ li = 1 /\ RepB S n w p1 p2 p3 q1 q2 q3 t /\
     w.cell? ⟨b,0,none⟩ = some (.int .i64 t.kind) /\ w.cell? ⟨b,1,none⟩ = some (.string t.letters) /\ w.cell? ⟨b,2,none⟩ = some (.bool t.op) /\ w.cell? ⟨b,3,none⟩ = some (.slice p1 p2 p3) /\ w.cell? ⟨b,4,none⟩ = some (.slice q1 q2 q3)) /\
   ((ty.fields = [] /\ af = none /\ lf = 0 /\ cf = 0) \/
    ∃ g,S g /\ ty.fields ≠ [] /\ af = some ⟨g,0,none⟩ /\
     ∀ i f,ty.fields[i]? = some f -> ∃ p1 p2 p3 q1 q2 q3,RepB S n w p1 p2 p3 q1 q2 q3 f.2.1 /\ w.cell? ⟨g,i * 7,none⟩ = some (.int .i64 f.1) /\
      w.cell? ⟨g,i * 7 + 1,none⟩ = some (.int .i64 f.2.1.kind) /\ w.cell? ⟨g,i * 7 + 2,none⟩ = some (.string f.2.1.letters) /\ w.cell? ⟨g,i * 7 + 3,none⟩ = some (.bool f.2.1.op) /\ w.cell? ⟨g,i * 7 + 4,none⟩ = some (.slice p1 p2 p3) /\ w.cell? ⟨g,i * 7 + 5,none⟩ = some (.slice q1 q2 q3) /\
      w.cell? ⟨g,i * 7 + 6,none⟩ = some (.string f.2.2))
theorem RepB.keep {S : Nat -> Prop} {w w' : World} (hb : ∀ b o v,S b -> w.cell? ⟨b,o,none⟩ = some v -> w'.cell? ⟨b,o,none⟩ = some v) : ∀ {n : Nat} {ai af : Option Addr} {li ci lf cf : Nat} {ty : Ty},RepB S n w ai li ci af lf cf ty -> RepB S n w' ai li ci af lf cf ty
 | 0,_,_,_,_,_,_,_,h => h
 | n + 1,ai,af,li,ci,lf,cf,ty,h => by
  obtain ⟨hl,hn,hlf,hk,hi,hf⟩:=h
  refine ⟨hl,hn,hlf,hk,?_,?_⟩
  ·rcases hi with hi | ⟨t,b,p1,p2,p3,q1,q2,q3,h0,h1,h2,h2',h3,k0,k1,k2,k3,k4⟩
   ·exact .inl hi
   ·exact .inr ⟨t,b,p1,p2,p3,q1,q2,q3,h0,h1,h2,h2',RepB.keep hb h3,hb _ _ _ h0 k0,hb _ _ _ h0 k1,hb _ _ _ h0 k2,hb _ _ _ h0 k3,hb _ _ _ h0 k4⟩
  ·rcases hf with hf | ⟨g,h0,h0',h1,h2⟩
   ·exact .inl hf
   ·refine .inr ⟨g,h0,h0',h1,fun i f hi => ?_⟩
    obtain ⟨p1,p2,p3,q1,q2,q3,h3,k0,k1,k2,k3,k4,k5,k6⟩:=h2 i f hi
    exact ⟨p1,p2,p3,q1,q2,q3,RepB.keep hb h3,hb _ _ _ h0 k0,hb _ _ _ h0 k1,hb _ _ _ h0 k2,hb _ _ _ h0 k3,hb _ _ _ h0 k4,hb _ _ _ h0 k5,hb _ _ _ h0 k6⟩
theorem RepB.imp {S S' : Nat -> Prop} {w : World} (hS : ∀ b,b < w.heap.size -> S b -> S' b) : ∀ {n : Nat} {ai af : Option Addr} {li ci lf cf : Nat} {ty : Ty},RepB S n w ai li ci af lf cf ty -> RepB S' n w ai li ci af lf cf ty
 | 0,_,_,_,_,_,_,_,h => h
 | n + 1,ai,af,li,ci,lf,cf,ty,h => by
  obtain ⟨hl,hn,hlf,hk,hi,hf⟩:=h
  refine ⟨hl,hn,hlf,hk,?_,?_⟩
  ·rcases hi with hi | ⟨t,b,p1,p2,p3,q1,q2,q3,h0,h1,h2,h2',h3,h4⟩
   ·exact .inl hi
   ·exact .inr ⟨t,b,p1,p2,p3,q1,q2,q3,hS b (zaj h4.1) h0,h1,h2,h2',RepB.imp hS h3,h4⟩
  ·rcases hf with hf | ⟨g,h0,h0',h1,h2⟩
   ·exact .inl hf
   ·have hg : g < w.heap.size:=by
     rcases hfs : ty.fields with _ | ⟨f,fs⟩
     ·exact absurd hfs h0'
     ·obtain ⟨_,_,_,_,_,_,_,h4⟩:=h2 0 f (by rw [hfs];rfl)
      exact zaj h4.1
    refine .inr ⟨g,hS g hg h0,h0',h1,fun i f hi => ?_⟩
    obtain ⟨p1,p2,p3,q1,q2,q3,h3,h4⟩:=h2 i f hi
    exact ⟨p1,p2,p3,q1,q2,q3,RepB.imp hS h3,h4⟩
theorem RepB.rep {S : Nat -> Prop} {w : World} : ∀ {n : Nat} {ai af : Option Addr} {li ci lf cf : Nat} {ty : Ty},RepB S n w ai li ci af lf cf ty -> Rep n w ai li ci af lf cf ty
 | 0,_,_,_,_,_,_,_,h => h
 | n + 1,ai,af,li,ci,lf,cf,ty,h => by
  obtain ⟨hl,hn,hlf,hk,hi,hf⟩:=h
  refine ⟨hl,hn,hlf,hk,?_,?_⟩
  ·rcases hi with hi | ⟨t,b,p1,p2,p3,q1,q2,q3,h0,h1,h2,h2',h3,h4⟩
   ·exact .inl hi
   ·exact .inr ⟨t,b,p1,p2,p3,q1,q2,q3,h1,h2,h2',RepB.rep h3,h4⟩
  ·rcases hf with hf | ⟨g,h0,h0',h1,h2⟩
   ·exact .inl hf
   ·refine .inr ⟨g,h1,fun i f hi => ?_⟩
    obtain ⟨p1,p2,p3,q1,q2,q3,h3,h4⟩:=h2 i f hi
    exact ⟨p1,p2,p3,q1,q2,q3,RepB.rep h3,h4⟩
theorem zcj {w : World} {b o p q : Nat} {v u : Value} (h : w.cell? ⟨b,o,none⟩ = some v) (hne : b ≠ p) : (w.setCell ⟨p,q,none⟩ u).cell? ⟨b,o,none⟩ = some v:=by
 rw [World.cell?_of_block (w:=w) (Below.heap_setCell w _ _ _ hne)];exact h
theorem zar {w : World} {b o : Nat} {v : Value} (x : Obj) (h : w.cell? ⟨b,o,none⟩ = some v) : (w.alloc x).cell? ⟨b,o,none⟩ = some v:=by
 rw [World.cell?_of_block (w:=w) (Below.heap_alloc w _ _ (zaj h))];exact h
theorem zau {w : World} {cs : Array Value} {T : TypeId} {b o : Nat} {v : Value} (hb : w.heap.size = b) (hv : cs[o]? = some v) : (w.alloc (.cells cs T)).cell? ⟨b,o,none⟩ = some v:=by
 subst hb;rw [cell_of_row _ _ _ cs T _ (heap_alloc_new w _)];exact hv
theorem za9 (w : World) (o : Obj) : (w.alloc o).heap.size = w.heap.size + 1:=by simp
theorem zji {w : World} {p : Nat} {v0 v1 v2 v3 v4 : Value} : (((((w.setCell ⟨p,0,none⟩ v0).setCell ⟨p,1,none⟩ v1).setCell ⟨p,2,none⟩ v2).setCell ⟨p,3,none⟩ v3).setCell ⟨p,4,none⟩ v4).heap.size = w.heap.size:=by
 simp [World.setCell]
theorem Below.alloc' {a w : World} (h : Below a.heap.size a w) (o : Obj) : Below a.heap.size a (w.alloc o):=h.alloc h.size o
theorem Below.set5 {a w : World} (h : Below a.heap.size a w) {p : Nat} (hp : a.heap.size <= p) {v0 v1 v2 v3 v4 : Value} : Below a.heap.size a (((((w.setCell ⟨p,0,none⟩ v0).setCell ⟨p,1,none⟩ v1).setCell ⟨p,2,none⟩ v2).setCell ⟨p,3,none⟩ v3).setCell ⟨p,4,none⟩ v4) :=
 ((((h.setCell hp v0).setCell hp v1).setCell hp v2).setCell hp v3).setCell hp v4
theorem zb7 {w : World} {b o p : Nat} {v v0 v1 v2 v3 v4 : Value} (h : w.cell? ⟨b,o,none⟩ = some v) (hne : b ≠ p) : (((((w.setCell ⟨p,0,none⟩ v0).setCell ⟨p,1,none⟩ v1).setCell ⟨p,2,none⟩ v2).setCell ⟨p,3,none⟩ v3).setCell ⟨p,4,none⟩ v4).cell? ⟨b,o,none⟩ = some v :=
 zcj (zcj (zcj (zcj (zcj h hne) hne) hne) hne) hne
def PRet (B n : Nat) (r : Option (Ty × Nat)) (e : Ending) (w' : World) : Prop :=
 match r with
 | some (ty,k) => ∃ ai li ci af lf cf,e = .returned (.tuple #[.agg #[.int .i64 ty.kind,.string ty.letters,.bool ty.op,.slice ai li ci,.slice af lf cf],.int .i64 k,.bool true]) /\ RepB (fun b => B <= b) n w' ai li ci af lf cf ty
 | none => ∃ k' : Nat,e = .returned (.tuple #[.agg #[.int .i64 0,.string ByteArray.empty,.bool false,.slice none 0 0,.slice none 0 0],.int .i64 k',.bool false])
def ParseTypeOK (n : Nat) (s : ByteArray) : Prop:=∀ (i : Nat) (w : World),i <= s.size -> s.size <= i + n ->
 Calls Try.prog 63 #[.string s,.int .i64 i] w fun e w' => PRet w.heap.size n (zaf false s n i) e w' /\ Below w.heap.size w w'
theorem ParseTypeOK.no {n : Nat} {s : ByteArray} (IH : ParseTypeOK n s) {i : Nat} (w : World) (hi : i <= s.size) (hn : s.size <= i + n) (hx : zaf false s n i = none) :
 Calls Try.prog 63 #[.string s,.int .i64 i] w fun e w' => ∃ k' : Nat,e = .returned (.tuple #[.agg #[.int .i64 0,.string ByteArray.empty,.bool false,.slice none 0 0,.slice none 0 0],.int .i64 k',.bool false]) /\ Below w.heap.size w w':=by
 refine (IH i w hi hn).mono ?_
 rintro e w' ⟨h1,h2⟩;rw [hx] at h1;obtain ⟨k',h1⟩:=h1;exact ⟨k',h1,h2⟩
theorem ParseTypeOK.yes {n : Nat} {s : ByteArray} (IH : ParseTypeOK n s) {i : Nat} (w : World) (hi : i <= s.size) (hn : s.size <= i + n) {ty : Ty} {k : Nat} (hx : zaf false s n i = some (ty,k)) :
 Calls Try.prog 63 #[.string s,.int .i64 i] w fun e w' => ∃ ai li ci af lf cf,e = .returned (.tuple #[.agg #[.int .i64 ty.kind,.string ty.letters,.bool ty.op,.slice ai li ci,.slice af lf cf],.int .i64 k,.bool true]) /\ RepB (fun b => w.heap.size <= b) n w' ai li ci af lf cf ty /\ Below w.heap.size w w':=by
 refine (IH i w hi hn).mono ?_
 rintro e w' ⟨h1,h2⟩;rw [hx] at h1;obtain ⟨ai,li,ci,af,lf,cf,h1,h3⟩:=h1;exact ⟨ai,li,ci,af,lf,cf,h1,h3,h2⟩
theorem zei (s : ByteArray) (a : Nat) : ∀ m e,e <= lEnd s a m e /\ lEnd s a m e <= e + m
 | 0,e => by simp [lEnd]
 | m + 1,e => by
  rw [lEnd];split
  ·have:=zei s a m (e + 1);omega
  ·omega
theorem zne {n : Nat} {s : ByteArray} (IH : ParseTypeOK n s) (hs : s.size <= 4096) (a : Nat) (w : World) (ha : a <= s.size) (hn : s.size <= a + n) (hbd : ∀ ty k,zaf false s n a = some (ty,k) -> k <= s.size) :
  Calls Try.prog 74 #[.string s,.int .i64 a] w fun e w' => PRet w.heap.size (n + 1) (zbe (zaf false s n) s a) e w' /\ Below w.heap.size w w':=by
 have _hs : s.size <= 9000000:=by omega
 have hB : ∀ o,Below w.heap.size w (w.alloc o):=fun o => (Below.refl _ _).alloc (Nat.le_refl _) _
 cases hx : zaf false s n a with
 | none =>
  have hr' : Hid (zbe (zaf false s n) s a = none):=by show _ = _;unfold zbe;rw [hx]
  have hcall:=fun w => IH.no w ha hn hx
  clear hx hbd
  go_enter Try.func74,Try.ntmps74
  go_wp2_with (go_at_call 63;refine (hcall _).mono ?_;rintro e w1 ⟨k',rfl,hb1⟩;obtain ⟨hc1,hf1⟩:=zam hb1;have hz1 : w.heap.size < w1.heap.size:=(by have:=hb1.size;simp at this;omega))
  refine bodyPost_ret (v:=.tuple #[.agg #[.int .i64 0,.string ByteArray.empty,.bool false,.slice none 0 0,.slice none 0 0],.int .i64 a,.bool false]) (by simp [results,Try.results74,go_sem,hc1,hz1];rfl) rfl ?_
  rw [hr'.out]
  refine ⟨⟨a,rfl⟩,?_⟩
  have hb0 : Below w.heap.size w w1:=(hB _).trans (hb1.mono (by simp))
  exact Below.alloc' (Below.set5 hb0 (Nat.le_refl _)) _
 | some p =>
  obtain ⟨ty,k⟩:=p
  have hk:=hbd ty k hx
  have hcall:=fun w => IH.yes w ha hn hx
  by_cases h93 : bAt s k = 93
  ·have h93' : (bAt s k != 93) = false:=by simp [h93]
   have hr' : Hid (zbe (zaf false s n) s a = some (⟨91,ByteArray.empty,false,[ty],[]⟩,k + 1)):=by show _ = _;unfold zbe;rw [hx];simp only [if_pos h93]
   clear hx hbd h93
   go_enter Try.func74,Try.ntmps74
   go_wp2_with (first | (go_at_call 63;refine (hcall _).mono ?_;rintro e w1 ⟨ai,li,ci,af,lf,cf,rfl,hr1,hb1⟩;obtain ⟨hc1,hf1⟩:=zam hb1;have hz1 : w.heap.size < w1.heap.size:=(by have:=hb1.size;simp at this;omega)) | (go_at_call 68;refine (zai _ _ _ (by omega) _hs).mono ?_;rintro e w' ⟨rfl,rfl⟩))
   refine bodyPost_ret (v:=.tuple #[.agg #[.int .i64 91,.string ByteArray.empty,.bool false,.slice (some ⟨w1.heap.size + 1,0,none⟩) 1 1,.slice none 0 0],.int .i64 (k + 1 : Nat),.bool true]) (by simp [results,Try.results74,go_sem,hc1,hz1];rfl) rfl ?_
   rw [hr'.out]
   have hb0 : Below w.heap.size w w1:=(hB _).trans (hb1.mono (by simp))
   refine ⟨⟨_,_,_,_,_,_,rfl,?_⟩,Below.alloc' (Below.alloc' (Below.set5 hb0 (Nat.le_refl _)) _) _⟩
   have hkeep:=hr1.keep (w':=((((((w1.setCell ⟨w.heap.size,0,none⟩ (.int .i64 91)).setCell ⟨w.heap.size,1,none⟩ (.string ⟨#[]⟩)).setCell ⟨w.heap.size,2,none⟩ (.bool false)).setCell ⟨w.heap.size,3,none⟩ (.slice (some ⟨w1.heap.size + 1,0,none⟩) 1 1)).setCell ⟨w.heap.size,4,none⟩ (.slice none 0 0)).alloc (.cells #[.int .i64 ty.kind,.string ty.letters,.bool ty.op,.slice ai li ci,.slice af lf cf] 99)).alloc (.cells #[.int .i64 ty.kind,.string ty.letters,.bool ty.op,.slice ai li ci,.slice af lf cf] 99))
    (fun b o v hb h => zar _ (zar _ (zb7 h (by simp at hb;omega))))
   refine ⟨Nat.zero_le _,Nat.zero_le _,rfl,⟨fun _ => by simp,fun h => by simp at h⟩,.inr ⟨ty,w1.heap.size + 1,ai,li,ci,af,lf,cf,(by show w.heap.size <= w1.heap.size + 1;omega),rfl,rfl,rfl,hkeep.imp (fun b _ h => by simp at h;omega),?_,?_,?_,?_,?_⟩,.inl ⟨rfl,rfl,rfl,rfl⟩⟩
   all_goals exact zau (by rw [za9,zji]) rfl
  ·have h93' : (bAt s k != 93) = true:=by simpa using h93
   have hr' : Hid (zbe (zaf false s n) s a = none):=by show _ = _;unfold zbe;rw [hx];simp only [if_neg h93]
   clear hx hbd h93
   go_enter Try.func74,Try.ntmps74
   go_wp2_with (first | (go_at_call 63;refine (hcall _).mono ?_;rintro e w1 ⟨ai,li,ci,af,lf,cf,rfl,hr1,hb1⟩;obtain ⟨hc1,hf1⟩:=zam hb1;have hz1 : w.heap.size < w1.heap.size:=(by have:=hb1.size;simp at this;omega)) | (go_at_call 68;refine (zai _ _ _ (by omega) _hs).mono ?_;rintro e w' ⟨rfl,rfl⟩))
   refine bodyPost_ret (v:=.tuple #[.agg #[.int .i64 0,.string ByteArray.empty,.bool false,.slice none 0 0,.slice none 0 0],.int .i64 a,.bool false]) (by simp [results,Try.results74,go_sem,hc1,hz1];rfl) rfl ?_
   rw [hr'.out]
   refine ⟨⟨a,rfl⟩,?_⟩
   have hb0 : Below w.heap.size w w1:=(hB _).trans (hb1.mono (by simp))
   exact Below.alloc' (Below.set5 hb0 (Nat.le_refl _)) _
theorem znf {n : Nat} {s : ByteArray} (IH : ParseTypeOK n s) (hs : s.size <= 4096) (a : Nat) (w : World) (ha : a <= s.size) (hn : s.size <= a + n) (hbd : ∀ ty k,zaf false s n a = some (ty,k) -> k <= s.size) :
  Calls Try.prog 75 #[.string s,.int .i64 a] w fun e w' => PRet w.heap.size (n + 1) (zbf (zaf false s n) a) e w' /\ Below w.heap.size w w':=by
 have _hs : s.size <= 9000000:=by omega
 have hB : ∀ o,Below w.heap.size w (w.alloc o):=fun o => (Below.refl _ _).alloc (Nat.le_refl _) _
 cases hx : zaf false s n a with
 | none =>
  have hr' : Hid (zbf (zaf false s n) a = none):=by show _ = _;unfold zbf;rw [hx]
  have hcall:=fun w => IH.no w ha hn hx
  clear hx hbd
  go_enter Try.func75,Try.ntmps75
  go_wp2_with (go_at_call 63;refine (hcall _).mono ?_;rintro e w1 ⟨k',rfl,hb1⟩;obtain ⟨hc1,hf1⟩:=zam hb1;have hz1 : w.heap.size < w1.heap.size:=(by have:=hb1.size;simp at this;omega))
  refine bodyPost_ret (v:=.tuple #[.agg #[.int .i64 0,.string ByteArray.empty,.bool false,.slice none 0 0,.slice none 0 0],.int .i64 a,.bool false]) (by simp [results,Try.results75,go_sem,hc1,hz1];rfl) rfl ?_
  rw [hr'.out]
  refine ⟨⟨a,rfl⟩,?_⟩
  have hb0 : Below w.heap.size w w1:=(hB _).trans (hb1.mono (by simp))
  exact Below.alloc' (Below.set5 hb0 (Nat.le_refl _)) _
 | some p =>
  obtain ⟨ty,k⟩:=p
  have hk:=hbd ty k hx
  have hcall:=fun w => IH.yes w ha hn hx
  by_cases h93 : ¬ ty.kind = 63
  ·have h93' : ((ty.kind : Int) == 63) = false:=by simp;omega
   have hr' : Hid (zbf (zaf false s n) a = some (⟨63,ByteArray.empty,false,[ty],[]⟩,k)):=by show _ = _;unfold zbf;rw [hx];simp only [if_neg h93]
   clear hx hbd h93
   go_enter Try.func75,Try.ntmps75
   go_wp2_with (first | (go_at_call 63;refine (hcall _).mono ?_;rintro e w1 ⟨ai,li,ci,af,lf,cf,rfl,hr1,hb1⟩;obtain ⟨hc1,hf1⟩:=zam hb1;have hz1 : w.heap.size < w1.heap.size:=(by have:=hb1.size;simp at this;omega)) | (go_at_call 68;refine (zai _ _ _ (by omega) _hs).mono ?_;rintro e w' ⟨rfl,rfl⟩))
   refine bodyPost_ret (v:=.tuple #[.agg #[.int .i64 63,.string ByteArray.empty,.bool false,.slice (some ⟨w1.heap.size + 1,0,none⟩) 1 1,.slice none 0 0],.int .i64 k,.bool true]) (by simp [results,Try.results75,go_sem,hc1,hz1];rfl) rfl ?_
   rw [hr'.out]
   have hb0 : Below w.heap.size w w1:=(hB _).trans (hb1.mono (by simp))
   refine ⟨⟨_,_,_,_,_,_,rfl,?_⟩,Below.alloc' (Below.alloc' (Below.set5 hb0 (Nat.le_refl _)) _) _⟩
   have hkeep:=hr1.keep (w':=((((((w1.setCell ⟨w.heap.size,0,none⟩ (.int .i64 63)).setCell ⟨w.heap.size,1,none⟩ (.string ⟨#[]⟩)).setCell ⟨w.heap.size,2,none⟩ (.bool false)).setCell ⟨w.heap.size,3,none⟩ (.slice (some ⟨w1.heap.size + 1,0,none⟩) 1 1)).setCell ⟨w.heap.size,4,none⟩ (.slice none 0 0)).alloc (.cells #[.int .i64 ty.kind,.string ty.letters,.bool ty.op,.slice ai li ci,.slice af lf cf] 99)).alloc (.cells #[.int .i64 ty.kind,.string ty.letters,.bool ty.op,.slice ai li ci,.slice af lf cf] 99))
    (fun b o v hb h => zar _ (zar _ (zb7 h (by simp at hb;omega))))
   refine ⟨Nat.zero_le _,Nat.zero_le _,rfl,⟨fun _ => by simp,fun h => by simp at h⟩,.inr ⟨ty,w1.heap.size + 1,ai,li,ci,af,lf,cf,(by show w.heap.size <= w1.heap.size + 1;omega),rfl,rfl,rfl,hkeep.imp (fun b _ h => by simp at h;omega),?_,?_,?_,?_,?_⟩,.inl ⟨rfl,rfl,rfl,rfl⟩⟩
   all_goals exact zau (by rw [za9,zji]) rfl
  ·have h93' : ((ty.kind : Int) == 63) = true:=by simp;omega
   have hr' : Hid (zbf (zaf false s n) a = none):=by show _ = _;unfold zbf;rw [hx];simp only [if_pos (Decidable.not_not.mp h93)]
   clear hx hbd h93
   go_enter Try.func75,Try.ntmps75
   go_wp2_with (first | (go_at_call 63;refine (hcall _).mono ?_;rintro e w1 ⟨ai,li,ci,af,lf,cf,rfl,hr1,hb1⟩;obtain ⟨hc1,hf1⟩:=zam hb1;have hz1 : w.heap.size < w1.heap.size:=(by have:=hb1.size;simp at this;omega)) | (go_at_call 68;refine (zai _ _ _ (by omega) _hs).mono ?_;rintro e w' ⟨rfl,rfl⟩))
   refine bodyPost_ret (v:=.tuple #[.agg #[.int .i64 0,.string ByteArray.empty,.bool false,.slice none 0 0,.slice none 0 0],.int .i64 a,.bool false]) (by simp [results,Try.results75,go_sem,hc1,hz1];rfl) rfl ?_
   rw [hr'.out]
   refine ⟨⟨a,rfl⟩,?_⟩
   have hb0 : Below w.heap.size w w1:=(hB _).trans (hb1.mono (by simp))
   exact Below.alloc' (Below.set5 hb0 (Nat.le_refl _)) _
end
end Go.Proofs.Ytkkekopomiehlab
