import Derived.Test.YtkkekopomiehlaaGreatCEncRec
set_option linter.unusedVariables false
set_option linter.unusedSimpArgs false
set_option maxHeartbeats 40000000
namespace Go.Proofs.YtkkekopomiehlaaGreat
section
open Go.RowKit
def RepB (S : Nat -> Prop) : Nat -> World -> Option Addr -> Nat -> Nat -> Option Addr -> Nat -> Nat -> Ty -> Prop
 | 0,_,_,_,_,_,_,_,_ => False
 | n + 1,w,ai,li,ci,af,lf,cf,ty => ty.letters.size <= 8 /\ ty.fields.length <= 9000000 /\ lf = ty.fields.length /\ ((ty.kind = 91 \/ ty.kind = 63 -> ty.inner ≠ []) /\ (ty.kind = 123 -> ty.fields ≠ [])) /\
   ((ty.inner = [] /\ ai = none /\ li = 0 /\ ci = 0) \/
    ∃ t b p1 p2 p3 q1 q2 q3,S b /\ ty.inner = [t] /\ ai = some ⟨b,0,none⟩ /\ li = 1 /\ RepB S n w p1 p2 p3 q1 q2 q3 t /\
     w.cell? ⟨b,0,none⟩ = some (.int .i64 t.kind) /\ w.cell? ⟨b,1,none⟩ = some (.string t.letters) /\ w.cell? ⟨b,2,none⟩ = some (.bool t.op) /\ w.cell? ⟨b,3,none⟩ = some (.slice p1 p2 p3) /\ w.cell? ⟨b,4,none⟩ = some (.slice q1 q2 q3)) /\
   ((ty.fields = [] /\ af = none /\ lf = 0 /\ cf = 0) \/
    ∃ g,S g /\ ty.fields ≠ [] /\ af = some ⟨g,0,none⟩ /\
     ∀ i f,ty.fields[i]? = some f -> ∃ p1 p2 p3 q1 q2 q3,RepB S n w p1 p2 p3 q1 q2 q3 f.2.1 /\ w.cell? ⟨g,i * 7,none⟩ = some (.int .i64 f.1) /\
      w.cell? ⟨g,i * 7 + 1,none⟩ = some (.int .i64 f.2.1.kind) /\ w.cell? ⟨g,i * 7 + 2,none⟩ = some (.string f.2.1.letters) /\ w.cell? ⟨g,i * 7 + 3,none⟩ = some (.bool f.2.1.op) /\ w.cell? ⟨g,i * 7 + 4,none⟩ = some (.slice p1 p2 p3) /\ w.cell? ⟨g,i * 7 + 5,none⟩ = some (.slice q1 q2 q3) /\
      w.cell? ⟨g,i * 7 + 6,none⟩ = some (.string f.2.2))
theorem RepB.keep {S : Nat -> Prop} {w w' : World} (hb : ∀ b o v,S b -> w.cell? ⟨b,o,none⟩ = some v -> w'.cell? ⟨b,o,none⟩ = some v) : ∀ {n : Nat} {ai af : Option Addr} {li ci lf cf : Nat} {ty : Ty},RepB S n w ai li ci af lf cf ty -> RepB S n w' ai li ci af lf cf ty
 | 0,_,_,_,_,_,_,_,h => h
 | n + 1,ai,af,li,ci,lf,cf,ty,h => by
  obtain ⟨hl,hn,hlf,hk,hi,hf⟩:=h
  refine ⟨hl,hn,hlf,hk,?_,?_⟩
  ·rcases hi with hi | ⟨t,b,p1,p2,p3,q1,q2,q3,h0,h1,h2,h2',h3,k0,k1,k2,k3,k4⟩
   ·exact .inl hi
   ·exact .inr ⟨t,b,p1,p2,p3,q1,q2,q3,h0,h1,h2,h2',RepB.keep hb h3,hb _ _ _ h0 k0,hb _ _ _ h0 k1,hb _ _ _ h0 k2,hb _ _ _ h0 k3,hb _ _ _ h0 k4⟩
  ·rcases hf with hf | ⟨g,h0,h0',h1,h2⟩
   ·exact .inl hf
   ·refine .inr ⟨g,h0,h0',h1,fun i f hi => ?_⟩
    obtain ⟨p1,p2,p3,q1,q2,q3,h3,k0,k1,k2,k3,k4,k5,k6⟩:=h2 i f hi
    exact ⟨p1,p2,p3,q1,q2,q3,RepB.keep hb h3,hb _ _ _ h0 k0,hb _ _ _ h0 k1,hb _ _ _ h0 k2,hb _ _ _ h0 k3,hb _ _ _ h0 k4,hb _ _ _ h0 k5,hb _ _ _ h0 k6⟩
theorem RepB.imp {S S' : Nat -> Prop} {w : World} (hS : ∀ b,b < w.heap.size -> S b -> S' b) : ∀ {n : Nat} {ai af : Option Addr} {li ci lf cf : Nat} {ty : Ty},RepB S n w ai li ci af lf cf ty -> RepB S' n w ai li ci af lf cf ty
 | 0,_,_,_,_,_,_,_,h => h
 | n + 1,ai,af,li,ci,lf,cf,ty,h => by
  obtain ⟨hl,hn,hlf,hk,hi,hf⟩:=h
  refine ⟨hl,hn,hlf,hk,?_,?_⟩
  ·rcases hi with hi | ⟨t,b,p1,p2,p3,q1,q2,q3,h0,h1,h2,h2',h3,h4⟩
   ·exact .inl hi
   ·exact .inr ⟨t,b,p1,p2,p3,q1,q2,q3,hS b (zaf h4.1) h0,h1,h2,h2',RepB.imp hS h3,h4⟩
  ·rcases hf with hf | ⟨g,h0,h0',h1,h2⟩
   ·exact .inl hf
   ·have hg : g < w.heap.size:=by
     rcases hfs : ty.fields with _ | ⟨f,fs⟩
     ·exact absurd hfs h0'
     ·obtain ⟨_,_,_,_,_,_,_,h4⟩:=h2 0 f (by rw [hfs];rfl)
      exact zaf h4.1
    refine .inr ⟨g,hS g hg h0,h0',h1,fun i f hi => ?_⟩
    obtain ⟨p1,p2,p3,q1,q2,q3,h3,h4⟩:=h2 i f hi
    exact ⟨p1,p2,p3,q1,q2,q3,RepB.imp hS h3,h4⟩
theorem RepB.rep {S : Nat -> Prop} {w : World} : ∀ {n : Nat} {ai af : Option Addr} {li ci lf cf : Nat} {ty : Ty},RepB S n w ai li ci af lf cf ty -> Rep n w ai li ci af lf cf ty
 | 0,_,_,_,_,_,_,_,h => h
 | n + 1,ai,af,li,ci,lf,cf,ty,h => by
  obtain ⟨hl,hn,hlf,hk,hi,hf⟩:=h
  refine ⟨hl,hn,hlf,hk,?_,?_⟩
  ·rcases hi with hi | ⟨t,b,p1,p2,p3,q1,q2,q3,h0,h1,h2,h2',h3,h4⟩
   ·exact .inl hi
   ·exact .inr ⟨t,b,p1,p2,p3,q1,q2,q3,h1,h2,h2',RepB.rep h3,h4⟩
  ·rcases hf with hf | ⟨g,h0,h0',h1,h2⟩
   ·exact .inl hf
   ·refine .inr ⟨g,h1,fun i f hi => ?_⟩
    obtain ⟨p1,p2,p3,q1,q2,q3,h3,h4⟩:=h2 i f hi
    exact ⟨p1,p2,p3,q1,q2,q3,RepB.rep h3,h4⟩
theorem RepB.below {S : Nat -> Prop} {n : Nat} {w w' : World} {ai af : Option Addr} {li ci lf cf : Nat} {ty : Ty} (h : RepB S n w ai li ci af lf cf ty) (hb : Below w.heap.size w w') : RepB S n w' ai li ci af lf cf ty :=
 h.keep fun _ _ _ _ k => zaa hb k
theorem zer {w : World} {b o p q : Nat} {v u : Value} (h : w.cell? ⟨b,o,none⟩ = some v) (hne : b ≠ p) : (w.setCell ⟨p,q,none⟩ u).cell? ⟨b,o,none⟩ = some v:=by
 rw [World.cell?_of_block (w:=w) (Below.heap_setCell w _ _ _ hne)];exact h
theorem zaw {w : World} {b o : Nat} {v : Value} (x : Obj) (h : w.cell? ⟨b,o,none⟩ = some v) : (w.alloc x).cell? ⟨b,o,none⟩ = some v:=by
 rw [World.cell?_of_block (w:=w) (Below.heap_alloc w _ _ (zaf h))];exact h
theorem za5 {w : World} {cs : Array Value} {T : TypeId} {b o : Nat} {v : Value} (hb : w.heap.size = b) (hv : cs[o]? = some v) : (w.alloc (.cells cs T)).cell? ⟨b,o,none⟩ = some v:=by
 subst hb;rw [cell_of_row _ _ _ cs T _ (heap_alloc_new w _)];exact hv
theorem za2 (w : World) (o : Obj) : (w.alloc o).heap.size = w.heap.size + 1:=by simp
theorem zqw {w : World} {p : Nat} {v0 v1 v2 v3 v4 : Value} : (((((w.setCell ⟨p,0,none⟩ v0).setCell ⟨p,1,none⟩ v1).setCell ⟨p,2,none⟩ v2).setCell ⟨p,3,none⟩ v3).setCell ⟨p,4,none⟩ v4).heap.size = w.heap.size:=by
 simp [World.setCell]
theorem Below.alloc' {a w : World} (h : Below a.heap.size a w) (o : Obj) : Below a.heap.size a (w.alloc o):=h.alloc h.size o
theorem Below.set5 {a w : World} (h : Below a.heap.size a w) {p : Nat} (hp : a.heap.size <= p) {v0 v1 v2 v3 v4 : Value} : Below a.heap.size a (((((w.setCell ⟨p,0,none⟩ v0).setCell ⟨p,1,none⟩ v1).setCell ⟨p,2,none⟩ v2).setCell ⟨p,3,none⟩ v3).setCell ⟨p,4,none⟩ v4) :=
 ((((h.setCell hp v0).setCell hp v1).setCell hp v2).setCell hp v3).setCell hp v4
theorem zdt {w : World} {b o p : Nat} {v v0 v1 v2 v3 v4 : Value} (h : w.cell? ⟨b,o,none⟩ = some v) (hne : b ≠ p) : (((((w.setCell ⟨p,0,none⟩ v0).setCell ⟨p,1,none⟩ v1).setCell ⟨p,2,none⟩ v2).setCell ⟨p,3,none⟩ v3).setCell ⟨p,4,none⟩ v4).cell? ⟨b,o,none⟩ = some v :=
 zer (zer (zer (zer (zer h hne) hne) hne) hne) hne
def PRet (B n : Nat) (r : Option (Ty × Nat)) (e : Ending) (w' : World) : Prop :=
 match r with
 | some (ty,k) => ∃ ai li ci af lf cf,e = .returned (.tuple #[.agg #[.int .i64 ty.kind,.string ty.letters,.bool ty.op,.slice ai li ci,.slice af lf cf],.int .i64 k,.bool true]) /\ RepB (fun b => B <= b) n w' ai li ci af lf cf ty
 | none => ∃ k' : Nat,e = .returned (.tuple #[.agg #[.int .i64 0,.string ByteArray.empty,.bool false,.slice none 0 0,.slice none 0 0],.int .i64 k',.bool false])
def ParseTypeOK (n : Nat) (s : ByteArray) : Prop:=∀ (i : Nat) (w : World),i <= s.size -> s.size <= i + n ->
 Calls Tryz.prog 82 #[.string s,.int .i64 i] w fun e w' => PRet w.heap.size n (zac false s n i) e w' /\ Below w.heap.size w w'
theorem ParseTypeOK.no {n : Nat} {s : ByteArray} (IH : ParseTypeOK n s) {i : Nat} (w : World) (hi : i <= s.size) (hn : s.size <= i + n) (hx : zac false s n i = none) :
 Calls Tryz.prog 82 #[.string s,.int .i64 i] w fun e w' => ∃ k' : Nat,e = .returned (.tuple #[.agg #[.int .i64 0,.string ByteArray.empty,.bool false,.slice none 0 0,.slice none 0 0],.int .i64 k',.bool false]) /\ Below w.heap.size w w':=by
 refine (IH i w hi hn).mono ?_
 rintro e w' ⟨h1,h2⟩;rw [hx] at h1;obtain ⟨k',h1⟩:=h1;exact ⟨k',h1,h2⟩
theorem ParseTypeOK.yes {n : Nat} {s : ByteArray} (IH : ParseTypeOK n s) {i : Nat} (w : World) (hi : i <= s.size) (hn : s.size <= i + n) {ty : Ty} {k : Nat} (hx : zac false s n i = some (ty,k)) :
 Calls Tryz.prog 82 #[.string s,.int .i64 i] w fun e w' => ∃ ai li ci af lf cf,e = .returned (.tuple #[.agg #[.int .i64 ty.kind,.string ty.letters,.bool ty.op,.slice ai li ci,.slice af lf cf],.int .i64 k,.bool true]) /\ RepB (fun b => w.heap.size <= b) n w' ai li ci af lf cf ty /\ Below w.heap.size w w':=by
 refine (IH i w hi hn).mono ?_
 rintro e w' ⟨h1,h2⟩;rw [hx] at h1;obtain ⟨ai,li,ci,af,lf,cf,h1,h3⟩:=h1;exact ⟨ai,li,ci,af,lf,cf,h1,h3,h2⟩
theorem zh4 (s : ByteArray) (a : Nat) : ∀ m e,e <= lEnd s a m e /\ lEnd s a m e <= e + m
 | 0,e => by simp [lEnd]
 | m + 1,e => by
  rw [lEnd];split
  ·have:=zh4 s a m (e + 1);omega
  ·omega
theorem zw6 {n : Nat} {s : ByteArray} (IH : ParseTypeOK n s) (hs : s.size <= 4096) (a : Nat) (w : World) (ha : a <= s.size) (hn : s.size <= a + n) (hbd : ∀ ty k,zac false s n a = some (ty,k) -> k <= s.size) :
  Calls Tryz.prog 103 #[.string s,.int .i64 a] w fun e w' => PRet w.heap.size (n + 1) (zbt (zac false s n) s a) e w' /\ Below w.heap.size w w':=by
 have _hs : s.size <= 9000000:=by omega
 have hB : ∀ o,Below w.heap.size w (w.alloc o):=fun o => (Below.refl _ _).alloc (Nat.le_refl _) _
 cases hx : zac false s n a with
 | none =>
  have hr' : Hid (zbt (zac false s n) s a = none):=by show _ = _;unfold zbt;rw [hx]
  have hcall:=fun w => IH.no w ha hn hx
  clear hx hbd
  go_enter Tryz.func103,Tryz.ntmps103
  go_wp2_with (go_at_call 82;refine (hcall _).mono ?_;rintro e w1 ⟨k',rfl,hb1⟩;obtain ⟨hc1,hf1⟩:=zal hb1;have hz1 : w.heap.size < w1.heap.size:=(by have:=hb1.size;simp at this;omega))
  refine bodyPost_ret (v:=.tuple #[.agg #[.int .i64 0,.string ByteArray.empty,.bool false,.slice none 0 0,.slice none 0 0],.int .i64 a,.bool false]) (by simp [results,Tryz.results103,go_sem,hc1,hz1];rfl) rfl ?_
  rw [hr'.out]
  refine ⟨⟨a,rfl⟩,?_⟩
  have hb0 : Below w.heap.size w w1:=(hB _).trans (hb1.mono (by simp))
  exact Below.alloc' (Below.set5 hb0 (Nat.le_refl _)) _
 | some p =>
  obtain ⟨ty,k⟩:=p
  have hk:=hbd ty k hx
  have hcall:=fun w => IH.yes w ha hn hx
  by_cases h93 : bAt s k = 93
  ·have h93' : (bAt s k != 93) = false:=by simp [h93]
   have hr' : Hid (zbt (zac false s n) s a = some (⟨91,ByteArray.empty,false,[ty],[]⟩,k + 1)):=by show _ = _;unfold zbt;rw [hx];simp only [if_pos h93]
   clear hx hbd h93
   go_enter Tryz.func103,Tryz.ntmps103
   go_wp2_with (first | (go_at_call 82;refine (hcall _).mono ?_;rintro e w1 ⟨ai,li,ci,af,lf,cf,rfl,hr1,hb1⟩;obtain ⟨hc1,hf1⟩:=zal hb1;have hz1 : w.heap.size < w1.heap.size:=(by have:=hb1.size;simp at this;omega)) | (go_at_call 101;refine (zas _ _ _ (by omega) _hs).mono ?_;rintro e w' ⟨rfl,rfl⟩))
   refine bodyPost_ret (v:=.tuple #[.agg #[.int .i64 91,.string ByteArray.empty,.bool false,.slice (some ⟨w1.heap.size + 1,0,none⟩) 1 1,.slice none 0 0],.int .i64 (k + 1 : Nat),.bool true]) (by simp [results,Tryz.results103,go_sem,hc1,hz1];rfl) rfl ?_
   rw [hr'.out]
   have hb0 : Below w.heap.size w w1:=(hB _).trans (hb1.mono (by simp))
   refine ⟨⟨_,_,_,_,_,_,rfl,?_⟩,Below.alloc' (Below.alloc' (Below.set5 hb0 (Nat.le_refl _)) _) _⟩
   have hkeep:=hr1.keep (w':=((((((w1.setCell ⟨w.heap.size,0,none⟩ (.int .i64 91)).setCell ⟨w.heap.size,1,none⟩ (.string ⟨#[]⟩)).setCell ⟨w.heap.size,2,none⟩ (.bool false)).setCell ⟨w.heap.size,3,none⟩ (.slice (some ⟨w1.heap.size + 1,0,none⟩) 1 1)).setCell ⟨w.heap.size,4,none⟩ (.slice none 0 0)).alloc (.cells #[.int .i64 ty.kind,.string ty.letters,.bool ty.op,.slice ai li ci,.slice af lf cf] 135)).alloc (.cells #[.int .i64 ty.kind,.string ty.letters,.bool ty.op,.slice ai li ci,.slice af lf cf] 135))
    (fun b o v hb h => zaw _ (zaw _ (zdt h (by simp at hb;omega))))
   refine ⟨Nat.zero_le _,Nat.zero_le _,rfl,⟨fun _ => by simp,fun h => by simp at h⟩,.inr ⟨ty,w1.heap.size + 1,ai,li,ci,af,lf,cf,(by show w.heap.size <= w1.heap.size + 1;omega),rfl,rfl,rfl,hkeep.imp (fun b _ h => by simp at h;omega),?_,?_,?_,?_,?_⟩,.inl ⟨rfl,rfl,rfl,rfl⟩⟩
   all_goals exact za5 (by rw [za2,zqw]) rfl
  ·have h93' : (bAt s k != 93) = true:=by simpa using h93
   have hr' : Hid (zbt (zac false s n) s a = none):=by show _ = _;unfold zbt;rw [hx];simp only [if_neg h93]
   clear hx hbd h93
   go_enter Tryz.func103,Tryz.ntmps103
   go_wp2_with (first | (go_at_call 82;refine (hcall _).mono ?_;rintro e w1 ⟨ai,li,ci,af,lf,cf,rfl,hr1,hb1⟩;obtain ⟨hc1,hf1⟩:=zal hb1;have hz1 : w.heap.size < w1.heap.size:=(by have:=hb1.size;simp at this;omega)) | (go_at_call 101;refine (zas _ _ _ (by omega) _hs).mono ?_;rintro e w' ⟨rfl,rfl⟩))
   refine bodyPost_ret (v:=.tuple #[.agg #[.int .i64 0,.string ByteArray.empty,.bool false,.slice none 0 0,.slice none 0 0],.int .i64 a,.bool false]) (by simp [results,Tryz.results103,go_sem,hc1,hz1];rfl) rfl ?_
   rw [hr'.out]
   refine ⟨⟨a,rfl⟩,?_⟩
   have hb0 : Below w.heap.size w w1:=(hB _).trans (hb1.mono (by simp))
   exact Below.alloc' (Below.set5 hb0 (Nat.le_refl _)) _
theorem zw7 {n : Nat} {s : ByteArray} (IH : ParseTypeOK n s) (hs : s.size <= 4096) (a : Nat) (w : World) (ha : a <= s.size) (hn : s.size <= a + n) (hbd : ∀ ty k,zac false s n a = some (ty,k) -> k <= s.size) :
  Calls Tryz.prog 104 #[.string s,.int .i64 a] w fun e w' => PRet w.heap.size (n + 1) (zbq (zac false s n) a) e w' /\ Below w.heap.size w w':=by
 have _hs : s.size <= 9000000:=by omega
 have hB : ∀ o,Below w.heap.size w (w.alloc o):=fun o => (Below.refl _ _).alloc (Nat.le_refl _) _
 cases hx : zac false s n a with
 | none =>
  have hr' : Hid (zbq (zac false s n) a = none):=by show _ = _;unfold zbq;rw [hx]
  have hcall:=fun w => IH.no w ha hn hx
  clear hx hbd
  go_enter Tryz.func104,Tryz.ntmps104
  go_wp2_with (go_at_call 82;refine (hcall _).mono ?_;rintro e w1 ⟨k',rfl,hb1⟩;obtain ⟨hc1,hf1⟩:=zal hb1;have hz1 : w.heap.size < w1.heap.size:=(by have:=hb1.size;simp at this;omega))
  refine bodyPost_ret (v:=.tuple #[.agg #[.int .i64 0,.string ByteArray.empty,.bool false,.slice none 0 0,.slice none 0 0],.int .i64 a,.bool false]) (by simp [results,Tryz.results104,go_sem,hc1,hz1];rfl) rfl ?_
  rw [hr'.out]
  refine ⟨⟨a,rfl⟩,?_⟩
  have hb0 : Below w.heap.size w w1:=(hB _).trans (hb1.mono (by simp))
  exact Below.alloc' (Below.set5 hb0 (Nat.le_refl _)) _
 | some p =>
  obtain ⟨ty,k⟩:=p
  have hk:=hbd ty k hx
  have hcall:=fun w => IH.yes w ha hn hx
  by_cases h93 : ¬ ty.kind = 63
  ·have h93' : ((ty.kind : Int) == 63) = false:=by simp;omega
   have hr' : Hid (zbq (zac false s n) a = some (⟨63,ByteArray.empty,false,[ty],[]⟩,k)):=by show _ = _;unfold zbq;rw [hx];simp only [if_neg h93]
   clear hx hbd h93
   go_enter Tryz.func104,Tryz.ntmps104
   go_wp2_with (first | (go_at_call 82;refine (hcall _).mono ?_;rintro e w1 ⟨ai,li,ci,af,lf,cf,rfl,hr1,hb1⟩;obtain ⟨hc1,hf1⟩:=zal hb1;have hz1 : w.heap.size < w1.heap.size:=(by have:=hb1.size;simp at this;omega)) | (go_at_call 101;refine (zas _ _ _ (by omega) _hs).mono ?_;rintro e w' ⟨rfl,rfl⟩))
   refine bodyPost_ret (v:=.tuple #[.agg #[.int .i64 63,.string ByteArray.empty,.bool false,.slice (some ⟨w1.heap.size + 1,0,none⟩) 1 1,.slice none 0 0],.int .i64 k,.bool true]) (by simp [results,Tryz.results104,go_sem,hc1,hz1];rfl) rfl ?_
   rw [hr'.out]
   have hb0 : Below w.heap.size w w1:=(hB _).trans (hb1.mono (by simp))
   refine ⟨⟨_,_,_,_,_,_,rfl,?_⟩,Below.alloc' (Below.alloc' (Below.set5 hb0 (Nat.le_refl _)) _) _⟩
   have hkeep:=hr1.keep (w':=((((((w1.setCell ⟨w.heap.size,0,none⟩ (.int .i64 63)).setCell ⟨w.heap.size,1,none⟩ (.string ⟨#[]⟩)).setCell ⟨w.heap.size,2,none⟩ (.bool false)).setCell ⟨w.heap.size,3,none⟩ (.slice (some ⟨w1.heap.size + 1,0,none⟩) 1 1)).setCell ⟨w.heap.size,4,none⟩ (.slice none 0 0)).alloc (.cells #[.int .i64 ty.kind,.string ty.letters,.bool ty.op,.slice ai li ci,.slice af lf cf] 135)).alloc (.cells #[.int .i64 ty.kind,.string ty.letters,.bool ty.op,.slice ai li ci,.slice af lf cf] 135))
    (fun b o v hb h => zaw _ (zaw _ (zdt h (by simp at hb;omega))))
   refine ⟨Nat.zero_le _,Nat.zero_le _,rfl,⟨fun _ => by simp,fun h => by simp at h⟩,.inr ⟨ty,w1.heap.size + 1,ai,li,ci,af,lf,cf,(by show w.heap.size <= w1.heap.size + 1;omega),rfl,rfl,rfl,hkeep.imp (fun b _ h => by simp at h;omega),?_,?_,?_,?_,?_⟩,.inl ⟨rfl,rfl,rfl,rfl⟩⟩
   all_goals exact za5 (by rw [za2,zqw]) rfl
  ·have h93' : ((ty.kind : Int) == 63) = true:=by simp;omega
   have hr' : Hid (zbq (zac false s n) a = none):=by show _ = _;unfold zbq;rw [hx];simp only [if_pos (Decidable.not_not.mp h93)]
   clear hx hbd h93
   go_enter Tryz.func104,Tryz.ntmps104
   go_wp2_with (first | (go_at_call 82;refine (hcall _).mono ?_;rintro e w1 ⟨ai,li,ci,af,lf,cf,rfl,hr1,hb1⟩;obtain ⟨hc1,hf1⟩:=zal hb1;have hz1 : w.heap.size < w1.heap.size:=(by have:=hb1.size;simp at this;omega)) | (go_at_call 101;refine (zas _ _ _ (by omega) _hs).mono ?_;rintro e w' ⟨rfl,rfl⟩))
   refine bodyPost_ret (v:=.tuple #[.agg #[.int .i64 0,.string ByteArray.empty,.bool false,.slice none 0 0,.slice none 0 0],.int .i64 a,.bool false]) (by simp [results,Tryz.results104,go_sem,hc1,hz1];rfl) rfl ?_
   rw [hr'.out]
   refine ⟨⟨a,rfl⟩,?_⟩
   have hb0 : Below w.heap.size w w1:=(hB _).trans (hb1.mono (by simp))
   exact Below.alloc' (Below.set5 hb0 (Nat.le_refl _)) _
end
section
open Go.RowKit
theorem RepB.plain {S : Nat -> Prop} {n : Nat} {w : World} {ty : Ty} (hl : ty.letters.size <= 8) (hk : ¬ (ty.kind = 91 \/ ty.kind = 63 \/ ty.kind = 123)) (hi : ty.inner = []) (hf : ty.fields = []) : RepB S (n + 1) w none 0 0 none 0 0 ty :=
 ⟨hl,by rw [hf];exact Nat.zero_le _,by rw [hf];rfl,⟨fun h => absurd (by omega) hk,fun h => absurd (by omega) hk⟩,.inl ⟨hi,rfl,rfl,rfl⟩,.inl ⟨hf,rfl,rfl,rfl⟩⟩
theorem zw3 (n : Nat) {s : ByteArray} (hs : s.size <= 4096) (a : Nat) (w : World) (ha : a <= s.size) :
  Calls Tryz.prog 102 #[.string s,.int .i64 a] w fun e w' => PRet w.heap.size (n + 1) (zb8 s a) e w' /\ Below w.heap.size w w':=by
 have _hs : s.size <= 9000000:=by omega
 have hB : ∀ o,Below w.heap.size w (w.alloc o):=fun o => (Below.refl _ _).alloc (Nat.le_refl _) _
 obtain ⟨E,hE⟩ : ∃ E,E = lEnd s a (s.size - a) a:=⟨_,rfl⟩
 have hle:=zh4 s a (s.size - a) a
 rw [<- hE] at hle
 obtain ⟨hle1,hle2⟩:=hle
 have hP : zb8 s a = if E - a < 1 \/ 8 < E - a then none
   else if bAt s E = 43 then (if bAt s (E + 1) = 62 then some (⟨60,s.extract a E,true,[],[]⟩,E + 2) else none)
   else if bAt s E = 62 then some (⟨60,s.extract a E,false,[],[]⟩,E + 1) else none:=by rw [hE];rfl
 have hend : ∀ w,Calls Tryz.prog 123 #[.string s,.int .i64 a] w fun e w' => e = .returned (.int .i64 E) /\ w' = w:=fun w => by rw [hE];exact zvm s a w _hs ha
 have hx:=size_extract s a E hle1 (by omega)
 have HP : Hid (zb8 s a = _):=hP
 clear hE hP
 by_cases h1 : E - a < 1 \/ 8 < E - a
 ·have hr' : Hid (zb8 s a = none):=by show _ = _;rw [HP.out,if_pos h1]
  clear HP
  rcases h1 with h1 | h1
  ·have h1' : (s.extract a E).size < 1:=by omega
   go_enter Tryz.func102,Tryz.ntmps102
   go_wp2_with (first | (go_at_call 101;refine (zas _ _ _ (by omega) _hs).mono ?_;rintro e w' ⟨rfl,rfl⟩) | (go_at_call 123;refine (hend _).mono ?_;rintro e w' ⟨rfl,rfl⟩) | (go_at_call 124;refine (zdh s a E _ hle1 (by omega) _hs).mono ?_;rintro e w' ⟨rfl,rfl⟩))
   refine bodyPost_ret (v:=.tuple #[.agg #[.int .i64 0,.string ByteArray.empty,.bool false,.slice none 0 0,.slice none 0 0],.int .i64 a,.bool false]) (by simp [results,Tryz.results102,go_sem];rfl) rfl ?_
   rw [hr'.out]
   exact ⟨⟨a,rfl⟩,hB _⟩
  ·have h1' : ¬ (s.extract a E).size < 1:=by omega
   have h1'' : 8 < (s.extract a E).size:=by omega
   go_enter Tryz.func102,Tryz.ntmps102
   go_wp2_with (first | (go_at_call 101;refine (zas _ _ _ (by omega) _hs).mono ?_;rintro e w' ⟨rfl,rfl⟩) | (go_at_call 123;refine (hend _).mono ?_;rintro e w' ⟨rfl,rfl⟩) | (go_at_call 124;refine (zdh s a E _ hle1 (by omega) _hs).mono ?_;rintro e w' ⟨rfl,rfl⟩))
   refine bodyPost_ret (v:=.tuple #[.agg #[.int .i64 0,.string ByteArray.empty,.bool false,.slice none 0 0,.slice none 0 0],.int .i64 a,.bool false]) (by simp [results,Tryz.results102,go_sem];rfl) rfl ?_
   rw [hr'.out]
   exact ⟨⟨a,rfl⟩,hB _⟩
 ·have h1' : ¬ (s.extract a E).size < 1:=by omega
  have h1'' : ¬ 8 < (s.extract a E).size:=by omega
  by_cases h2 : bAt s E = 43
  ·have h2' : (bAt s E == 43) = true:=by simp [h2]
   by_cases h3 : bAt s (E + 1) = 62
   ·have h3' : (bAt s (E + 1) != 62) = false:=by simp [h3]
    have hr' : Hid (zb8 s a = some (⟨60,s.extract a E,true,[],[]⟩,E + 2)):=by show _ = _;rw [HP.out,if_neg h1,if_pos h2,if_pos h3]
    clear HP h2 h3
    go_enter Tryz.func102,Tryz.ntmps102
    go_wp2_with (first | (go_at_call 101;refine (zas _ _ _ (by omega) _hs).mono ?_;rintro e w' ⟨rfl,rfl⟩) | (go_at_call 123;refine (hend _).mono ?_;rintro e w' ⟨rfl,rfl⟩) | (go_at_call 124;refine (zdh s a E _ hle1 (by omega) _hs).mono ?_;rintro e w' ⟨rfl,rfl⟩))
    refine bodyPost_ret (v:=.tuple #[.agg #[.int .i64 60,.string (s.extract a E),.bool true,.slice none 0 0,.slice none 0 0],.int .i64 (E + 2 : Nat),.bool true]) (by simp [results,Tryz.results102,go_sem];try omega) rfl ?_
    rw [hr'.out]
    exact ⟨⟨_,_,_,_,_,_,rfl,RepB.plain (by show (s.extract a E).size <= 8;omega) (by simp) rfl rfl⟩,hB _⟩
   ·have h3' : (bAt s (E + 1) != 62) = true:=by simpa using h3
    have hr' : Hid (zb8 s a = none):=by show _ = _;rw [HP.out,if_neg h1,if_pos h2,if_neg h3]
    clear HP h2 h3
    go_enter Tryz.func102,Tryz.ntmps102
    go_wp2_with (first | (go_at_call 101;refine (zas _ _ _ (by omega) _hs).mono ?_;rintro e w' ⟨rfl,rfl⟩) | (go_at_call 123;refine (hend _).mono ?_;rintro e w' ⟨rfl,rfl⟩) | (go_at_call 124;refine (zdh s a E _ hle1 (by omega) _hs).mono ?_;rintro e w' ⟨rfl,rfl⟩))
    refine bodyPost_ret (v:=.tuple #[.agg #[.int .i64 0,.string ByteArray.empty,.bool false,.slice none 0 0,.slice none 0 0],.int .i64 a,.bool false]) (by simp [results,Tryz.results102,go_sem];rfl) rfl ?_
    rw [hr'.out]
    exact ⟨⟨a,rfl⟩,hB _⟩
  ·have h2' : (bAt s E == 43) = false:=by simpa using h2
   by_cases h3 : bAt s E = 62
   ·have h3' : (bAt s E != 62) = false:=by simp [h3]
    have hr' : Hid (zb8 s a = some (⟨60,s.extract a E,false,[],[]⟩,E + 1)):=by show _ = _;rw [HP.out,if_neg h1,if_neg h2,if_pos h3]
    clear HP h2 h3
    go_enter Tryz.func102,Tryz.ntmps102
    go_wp2_with (first | (go_at_call 101;refine (zas _ _ _ (by omega) _hs).mono ?_;rintro e w' ⟨rfl,rfl⟩) | (go_at_call 123;refine (hend _).mono ?_;rintro e w' ⟨rfl,rfl⟩) | (go_at_call 124;refine (zdh s a E _ hle1 (by omega) _hs).mono ?_;rintro e w' ⟨rfl,rfl⟩))
    refine bodyPost_ret (v:=.tuple #[.agg #[.int .i64 60,.string (s.extract a E),.bool false,.slice none 0 0,.slice none 0 0],.int .i64 (E + 1 : Nat),.bool true]) (by simp [results,Tryz.results102,go_sem];try omega) rfl ?_
    rw [hr'.out]
    exact ⟨⟨_,_,_,_,_,_,rfl,RepB.plain (by show (s.extract a E).size <= 8;omega) (by simp) rfl rfl⟩,hB _⟩
   ·have h3' : (bAt s E != 62) = true:=by simpa using h3
    have hr' : Hid (zb8 s a = none):=by show _ = _;rw [HP.out,if_neg h1,if_neg h2,if_neg h3]
    clear HP h2 h3
    go_enter Tryz.func102,Tryz.ntmps102
    go_wp2_with (first | (go_at_call 101;refine (zas _ _ _ (by omega) _hs).mono ?_;rintro e w' ⟨rfl,rfl⟩) | (go_at_call 123;refine (hend _).mono ?_;rintro e w' ⟨rfl,rfl⟩) | (go_at_call 124;refine (zdh s a E _ hle1 (by omega) _hs).mono ?_;rintro e w' ⟨rfl,rfl⟩))
    refine bodyPost_ret (v:=.tuple #[.agg #[.int .i64 0,.string ByteArray.empty,.bool false,.slice none 0 0,.slice none 0 0],.int .i64 a,.bool false]) (by simp [results,Tryz.results102,go_sem];rfl) rfl ?_
    rw [hr'.out]
    exact ⟨⟨a,rfl⟩,hB _⟩
end
end Go.Proofs.YtkkekopomiehlaaGreat
