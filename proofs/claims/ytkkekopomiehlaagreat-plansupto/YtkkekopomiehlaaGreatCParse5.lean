import Derived.Test.YtkkekopomiehlaaGreatCParse3
set_option linter.unusedVariables false
set_option linter.unusedSimpArgs false
set_option maxHeartbeats 40000000
namespace Go.Proofs.YtkkekopomiehlaaGreat
section
open Go.RowKit
theorem zbc {w w' : World} {base : Nat} {e : TypeId} {size : Nat} {v : Value} {n : Nat} {xs : List Value} (h : w.ownsRow base e size v n xs) (hb : Below w.heap.size w w') : w'.ownsRow base e size v n xs :=
 h.kept (row:=none) ⟨hb.os,hb.tape,hb.output,hb.size,fun k hk _ => hb.block k hk⟩ (by cases v.ownBlock <;> simp)
theorem Tryz.infoField : (Tryz.prog.info? 171).map (fun i => (i.zero,i.size,i.bytes)) = some (some (.agg #[.int .i64 0,.int .i64 0,.string ⟨#[]⟩,.bool false,.slice none 0 0,.slice none 0 0,.string ⟨#[]⟩]),7,104):=by kernel_rfl
def FieldOK (n : Nat) (s : ByteArray) : Prop:=∀ (i : Nat) (w : World),i <= s.size -> s.size <= i + 2 + n ->
 Calls Tryz.prog 125 #[.string s,.int .i64 i] w fun e w' => FRet w.heap.size n (zaj (zac false s n) (enc false s n) s i) e w' /\ Below w.heap.size w w'
theorem FieldOK.no {n : Nat} {s : ByteArray} (IH : FieldOK n s) {i : Nat} (w : World) (hi : i <= s.size) (hn : s.size <= i + 2 + n) (hx : zaj (zac false s n) (enc false s n) s i = none) :
 Calls Tryz.prog 125 #[.string s,.int .i64 i] w fun e w' => ∃ k' : Nat,e = .returned (.tuple #[.agg #[.int .i64 0,.int .i64 0,.string ByteArray.empty,.bool false,.slice none 0 0,.slice none 0 0,.string ByteArray.empty],.int .i64 k',.bool false]) /\ Below w.heap.size w w':=by
 refine (IH i w hi hn).mono ?_
 rintro e w' ⟨h1,h2⟩;rw [hx] at h1;obtain ⟨k',h1⟩:=h1;exact ⟨k',h1,h2⟩
theorem FieldOK.yes {n : Nat} {s : ByteArray} (IH : FieldOK n s) {i : Nat} (w : World) (hi : i <= s.size) (hn : s.size <= i + 2 + n) {f : Nat × Ty × ByteArray} {k : Nat} (hx : zaj (zac false s n) (enc false s n) s i = some (f,k)) :
 Calls Tryz.prog 125 #[.string s,.int .i64 i] w fun e w' => ∃ ai li ci af lf cf,e = .returned (.tuple #[.agg #[.int .i64 f.1,.int .i64 f.2.1.kind,.string f.2.1.letters,.bool f.2.1.op,.slice ai li ci,.slice af lf cf,.string f.2.2],.int .i64 k,.bool true]) /\ RepB (fun b => w.heap.size <= b) n w' ai li ci af lf cf f.2.1 /\ Below w.heap.size w w':=by
 refine (IH i w hi hn).mono ?_
 rintro e w' ⟨h1,h2⟩;rw [hx] at h1;obtain ⟨ai,li,ci,af,lf,cf,h1,h3⟩:=h1;exact ⟨ai,li,ci,af,lf,cf,h1,h3,h2⟩
def zqe : Option (List (Nat × Ty × ByteArray) × Nat) -> Option (Ty × Nat)
 | none => none
 | some (fs,k) => some (⟨123,ByteArray.empty,false,[],fs⟩,k)
theorem zw1 (pf : Nat -> Option ((Nat × Ty × ByteArray) × Nat)) (s : ByteArray) (a : Nat) : pRec pf s a = zqe (zaz pf s (s.size - a) a []):=by
 unfold pRec zqe;rcases zaz pf s (s.size - a) a [] with _ | ⟨fs,k⟩ <;> rfl
theorem zqi {n H g g' : Nat} {wr w1 w2 w3 : World} {o o2 : Obj} {xs : List Value} {acc : List (Nat × Ty × ByteArray)} {f : Nat × Ty × ByteArray} {ai af : Option Addr} {li ci lf cf : Nat}
  (hrow : RowOf (fun b => H + 1 <= b /\ b ≠ g) n wr xs acc) (hr1 : RepB (fun b => wr.heap.size <= b) n w1 ai li ci af lf cf f.2.1) (hb1 : Below wr.heap.size wr w1) (hb2 : Below (w1.alloc o).heap.size (w1.alloc o) w2)
  (hgrow : (w2.alloc o2).grownBy w3 (some g)) (hat : some g = some g' \/ g' = w2.heap.size + 1) (hH : H + 1 <= wr.heap.size) (hg : g < wr.heap.size) :
  RowOf (fun b => H + 1 <= b /\ b ≠ g') n w3 (xs ++ [.int .i64 f.1,.int .i64 f.2.1.kind,.string f.2.1.letters,.bool f.2.1.op,.slice ai li ci,.slice af lf cf,.string f.2.2]) (acc ++ [f]):=by
 have z1:=hb1.size
 have z2:=hb2.size
 rw [za2] at z2
 have hg' : g' = g \/ g' = w2.heap.size + 1:=by
  rcases hat with h | h
  ·left;cases h;rfl
  ·exact .inr h
 have tr : ∀ b o v,b ≠ g -> w1.cell? ⟨b,o,none⟩ = some v -> w3.cell? ⟨b,o,none⟩ = some v:=fun b o v hne h =>
  hgrow.cell (zaw _ (zaa hb2 (zaw _ h))) (fun e => hne (by cases e;rfl))
 have h1 : RowOf (fun b => H + 1 <= b /\ b ≠ g /\ b ≠ g') n wr xs acc:=hrow.imp (fun b hb h => ⟨h.1,h.2,by omega⟩)
 have h2 : RowOf (fun b => H + 1 <= b /\ b ≠ g') n w3 xs acc:=(h1.keep (fun b o v hS h => tr b o v hS.2.1 (zaa hb1 h))).imp (fun b _ h => ⟨h.1,h.2.2⟩)
 have h3 : RepB (fun b => H + 1 <= b /\ b ≠ g /\ b ≠ g') n w1 ai li ci af lf cf f.2.1:=hr1.imp (fun b hb h => by refine ⟨?_,?_,?_⟩ <;> omega)
 exact h2.snoc ((h3.keep (fun b o v hS h => tr b o v hS.2.1 h)).imp (fun b _ h => ⟨h.1,h.2.2⟩))
theorem zx6 {n H g cap : Nat} {w : World} {xs : List Value} {fs : List (Nat × Ty × ByteArray)} (hne : fs ≠ []) (hfl : fs.length <= 9000000) (hown : w.ownsRow (H + 1) 171 7 (.slice (some ⟨g,0,none⟩) fs.length cap) fs.length xs) (hrow : RowOf (fun b => H + 1 <= b /\ b ≠ g) n w xs fs) :
  RepB (fun b => H + 1 <= b) (n + 1) w none 0 0 (some ⟨g,0,none⟩) fs.length cap ⟨123,ByteArray.empty,false,[],fs⟩:=by
 refine ⟨Nat.zero_le _,hfl,rfl,⟨fun h => by simp at h,fun _ => hne⟩,.inl ⟨rfl,rfl,rfl,rfl⟩,.inr ⟨g,(hown.lt g rfl).1,hne,rfl,fun i f hi => ?_⟩⟩
 obtain ⟨p1,p2,p3,q1,q2,q3,h1,k0,k1,k2,k3,k4,k5,k6⟩:=hrow.2 i f hi
 exact ⟨p1,p2,p3,q1,q2,q3,h1.imp (fun b _ h => h.1),zaq hown k0,zaq hown k1,zaq hown k2,zaq hown k3,zaq hown k4,zaq hown k5,zaq hown k6⟩
theorem zxa {n : Nat} {s : ByteArray} (IH : FieldOK n s) (hs : s.size <= 4096) (a0 : Nat) (w : World) (ha0 : a0 <= s.size) (hn : s.size <= a0 + n) (hbd : ∀ i f k,zaj (zac false s n) (enc false s n) s i = some (f,k) -> i < k /\ k <= s.size) :
  Calls Tryz.prog 105 #[.string s,.int .i64 a0] w fun e w' => PRet w.heap.size (n + 1) (pRec (zaj (zac false s n) (enc false s n) s) s a0) e w' /\ Below w.heap.size w w':=by
 have _hs : s.size <= 9000000:=by omega
 obtain ⟨R,hR⟩ : ∃ R,R = zaz (zaj (zac false s n) (enc false s n) s) s (s.size - a0) a0 []:=⟨_,rfl⟩
 rw [zw1,<- hR]
 have HR : Hid (R = zaz (zaj (zac false s n) (enc false s n) s) s (s.size - a0) a0 []):=hR
 clear hR
 go_enter Tryz.func105,Tryz.ntmps105
 go_wp2_with fail
 go_loopw [1,7] (fun va vf wr => ∃ (a m g cap : Nat) (acc : List (Nat × Ty × ByteArray)) (xs : List Value),va = .int .i64 a /\ vf = .slice (some ⟨g,0,none⟩) acc.length cap /\ a0 <= a /\ a <= s.size + 1 /\ s.size <= a + m /\ acc.length <= a /\
   wr.ownsRow (w.heap.size + 1) 171 7 (.slice (some ⟨g,0,none⟩) acc.length cap) acc.length xs /\ RowOf (fun b => w.heap.size + 1 <= b /\ b ≠ g) n wr xs acc /\
   Hid (R = zaz (zaj (zac false s n) (enc false s n) s) s m a acc) /\ Below (w.heap.size + 1) (w.alloc (.cells #[.int .i64 0,.string ⟨#[]⟩,.bool false,.slice none 0 0,.slice none 0 0] 135)) wr) (fun a _ _ => s.size + 1 - (intOf a).toNat)
 case atStart =>
  refine ⟨a0,s.size - a0,w.heap.size + 1,0,[],[],rfl,rfl,Nat.le_refl _,by omega,by omega,Nat.zero_le _,?_,RowOf.nil,HR,(Below.refl (w.heap.size + 1) _).alloc (by simp) _⟩
  have h:=World.ownsRow_made (base:=w.heap.size + 1) (e:=171) (size:=7) (w.alloc (.cells #[.int .i64 0,.string ⟨#[]⟩,.bool false,.slice none 0 0,.slice none 0 0] 135)) #[] 0 (by simp) (by unfold maxLen;omega) rfl
  rw [za2] at h
  exact h
 case round =>
  obtain ⟨a,m,g,cap,acc,xs,rfl,rfl,ha1,ha2,ham,hacc,hown,hrow,hR,hb⟩:=hrel
  obtain ⟨hcr,hfr⟩:=zal hb
  have hzr : w.heap.size < wr.heap.size:=by have:=hb.size;simp at this;omega
  have hbw : Below w.heap.size w wr:=((Below.refl _ _).alloc (Nat.le_refl _) _).trans (hb.mono (by omega))
  have hgl:=hown.lt g rfl
  obtain ⟨hg1,hg2⟩:=hgl
  by_cases hlt : a < s.size
  ·obtain ⟨m',rfl⟩ : ∃ m',m = m' + 1:=⟨m - 1,by omega⟩
   cases hx : zaj (zac false s n) (enc false s n) s a with
   | none =>
    have hr' : Hid (R = none):=by show _ = _;rw [hR.out,zaz,hx]
    have hcall:=fun w => IH.no w (show a <= s.size by omega) (by omega) hx
    clear hx hbd
    go_wp2_with (first | (go_at_call 125;refine (hcall _).mono ?_;rintro e w1 ⟨k',rfl,hb1⟩;obtain ⟨hc1,hf1⟩:=zal hb1;have hz1 : wr.heap.size <= w1.heap.size:=hb1.size;have hz4 : w.heap.size < w1.heap.size:=(by omega)))
    (try simp only [Exit.inBlock,Exit.then])
    refine bodyPost_ret (v:=.tuple #[.agg #[.int .i64 0,.string ByteArray.empty,.bool false,.slice none 0 0,.slice none 0 0],.int .i64 a,.bool false]) (by simp [results,Tryz.results105,go_sem,hc1,hcr,hz1,hzr,hz4];rfl) rfl ?_
    rw [hr'.out]
    exact ⟨⟨a,rfl⟩,Below.alloc' (Below.set5 (hbw.trans (hb1.mono hbw.size)) (Nat.le_refl _)) _⟩
   | some p =>
    obtain ⟨f,k⟩:=p
    obtain ⟨hk1,hk2⟩:=hbd a f k hx
    have hcall:=fun w => IH.yes w (show a <= s.size by omega) (by omega) hx
    have hasF : ∀ (w1 : World) (o : Obj),Below wr.heap.size wr w1 -> Calls Tryz.prog 112 #[.slice (some ⟨g,0,none⟩) acc.length cap,.int .i64 f.1] (w1.alloc o) fun e w' => e = .returned (.int .i64 (plF acc f.1)) /\ Below (w1.alloc o).heap.size (w1.alloc o) w':=fun w1 o hb1 => by
     refine zpx acc f.1 (w1.alloc o) g cap (by omega) (fun i f hi => ?_)
     obtain ⟨p1,p2,p3,q1,q2,q3,h1,h2⟩:=hrow.2 i f hi
     obtain ⟨k0,k1,k2,k3,k4,k5,k6⟩:=h2
     have ho:=(zbc hown hb1).alloc o
     exact ⟨p1,p2,p3,q1,q2,q3,zaq ho k0,zaq ho k1,zaq ho k2,zaq ho k3,zaq ho k4,zaq ho k5,zaq ho k6⟩
    cases hh : hasL acc f.1 with
    | true =>
     obtain ⟨pp,hpp,hppl⟩:=zxk acc f.1 hh
     rw [hpp] at hasF
     have hr' : Hid (R = none):=by show _ = _;rw [hR.out,zaz,hx];simp only [show (acc.any fun g => g.1 == f.1) = true from hh,if_true]
     clear hx hbd
     go_wp2_with (first | (go_at_call 125;refine (hcall _).mono ?_;rintro e w1 ⟨ai,li,ci,af,lf,cf,rfl,hr1,hb1⟩;obtain ⟨hc1,hf1⟩:=zal hb1;have hz1 : wr.heap.size <= w1.heap.size:=hb1.size;have hz4 : w.heap.size < w1.heap.size:=(by omega)) | (go_at_call 112;refine (hasF _ _ hb1).mono ?_;rintro e w2 ⟨rfl,hb2⟩;obtain ⟨hc2,hf2⟩:=zal hb2;have hz2 : w1.heap.size < w2.heap.size:=(by have:=hb2.size;simp at this;omega);have hz5 : w.heap.size < w1.heap.size + 1:=(by omega)))
     (try simp only [Exit.inBlock,Exit.then])
     refine bodyPost_ret (v:=.tuple #[.agg #[.int .i64 0,.string ByteArray.empty,.bool false,.slice none 0 0,.slice none 0 0],.int .i64 a,.bool false]) (by simp [results,Tryz.results105,go_sem,hc1,hcr,hc2,hz1,hz2,hz4,hz5,hzr];rfl) rfl ?_
     rw [hr'.out]
     exact ⟨⟨a,rfl⟩,Below.set5 ((Below.alloc' (hbw.trans (hb1.mono hbw.size)) _).trans (hb2.mono (by simp;omega))) (Nat.le_refl _)⟩
    | false =>
     rw [zxh acc f.1 hh] at hasF
     obtain ⟨i0,hi0,hz0,hzz1,hzz2⟩:=info_parts Tryz.infoField
     have hown3 : ∀ (w1 w2 : World) (o : Obj) (o2 : Obj),Below wr.heap.size wr w1 -> Below (w1.alloc o).heap.size (w1.alloc o) w2 -> (w2.alloc o2).ownsRow (w.heap.size + 1) 171 7 (.slice (some ⟨g,0,none⟩) acc.length cap) acc.length xs:=fun w1 w2 o o2 hb1 hb2 => (zbc ((zbc hown hb1).alloc o) hb2).alloc o2
     have hbig : ∀ (w1 w2 w3 : World) (o o2 : Obj),Below wr.heap.size wr w1 -> Below (w1.alloc o).heap.size (w1.alloc o) w2 -> (w2.alloc o2).grownBy w3 (some g) -> Below (w.heap.size + 1) (w.alloc (.cells #[.int .i64 0,.string ⟨#[]⟩,.bool false,.slice none 0 0,.slice none 0 0] 135)) w3:=fun w1 w2 w3 o o2 hb1 hb2 hgrow => by
      have z1:=hb1.size
      have z2:=hb2.size
      simp at z2
      have c1:=hb.trans (hb1.mono (by omega))
      have c2:=(c1.alloc (by omega) o).trans (hb2.mono (by simp;omega))
      exact Below.grown (c2.alloc (by omega) o2) hgrow (by simp;omega) (fun k hk => by cases hk;omega)
     by_cases h5 : bAt s k = 125
     ·have h5' : (bAt s k == 125) = true:=by simp [h5]
      have hr' : Hid (R = some (acc ++ [f],k + 1)):=by show _ = _;rw [hR.out,zaz,hx];simp only [show (acc.any fun g => g.1 == f.1) = false from hh,if_pos h5];rfl
      clear hx hbd h5
      go_wp2_with (first | (go_at_call 125;refine (hcall _).mono ?_;rintro e w1 ⟨ai,li,ci,af,lf,cf,rfl,hr1,hb1⟩;obtain ⟨hc1,hf1⟩:=zal hb1;have hz1 : wr.heap.size <= w1.heap.size:=hb1.size;have hz4 : w.heap.size < w1.heap.size:=(by omega)) | (go_at_call 112;refine (hasF _ _ hb1).mono ?_;rintro e w2 ⟨rfl,hb2⟩;obtain ⟨hc2,hf2⟩:=zal hb2;have hz2 : w1.heap.size < w2.heap.size:=(by have:=hb2.size;simp at this;omega);have hz5 : w.heap.size < w1.heap.size + 1:=(by omega)) | (at_builtin;refine wpList_append_lies _ rfl _ _ _ rfl (w.heap.size + 1) 171 i0 _ 7 104 Tryz.underlying133 hi0 hz0 hzz1 hzz2 rfl (by omega) _ acc.length xs rfl (hown3 _ _ _ _ hb1 hb2) ⟨w2.heap.size,0,none⟩ 1 1 [.int .i64 f.1,.int .i64 f.2.1.kind,.string f.2.1.letters,.bool f.2.1.op,.slice ai li ci,.slice af lf cf,.string f.2.2] rfl rfl (World.news_of_block (heap_alloc_new w2 _)) (by simp [Value.oneCell']) (by omega) (by unfold maxLen;omega) (by omega) (by simp;omega) (w2.heap.size + 1) (by simp) ?_;intro g' cap' w3 hown' hgrow hat hlt3;have hb3:=hbig _ _ _ _ _ hb1 hb2 hgrow;obtain ⟨hc3,hf3⟩:=zal hb3;have hz3 : w2.heap.size + 1 <= w3.heap.size:=(by have:=hgrow.size;simp at this;omega)) | (go_at_call 101;refine (zas _ _ _ (by omega) _hs).mono ?_;rintro e w3 ⟨rfl,rfl⟩))
      have hb0 : Below w.heap.size w w3:=((Below.refl _ _).alloc (Nat.le_refl _) _).trans (hb3.mono (by omega))
      have hl : (acc ++ [f]).length = acc.length + 1:=by simp
      have hrow3:=zqi hrow hr1 hb1 hb2 hgrow hat (by omega) hg2
      rw [<- hl] at hown'
      have hg3:=(hown'.lt g' rfl).1
      have hrep:=zx6 (by simp) (by simp;omega) hown' hrow3
      rw [hl] at hrep
      refine bodyPost_ret (v:=.tuple #[.agg #[.int .i64 123,.string ByteArray.empty,.bool false,.slice none 0 0,.slice (some ⟨g',0,none⟩) (acc.length + 1) cap'],.int .i64 (k + 1 : Nat),.bool true]) (by simp [results,Tryz.results105,go_sem,hc3];rfl) rfl ?_
      rw [hr'.out]
      exact ⟨⟨_,_,_,_,_,_,rfl,(hrep.keep (fun b o v hS h => zdt h (by omega))).imp (fun b _ h => by show w.heap.size <= b;omega)⟩,Below.set5 hb0 (Nat.le_refl _)⟩
     ·have h5' : (bAt s k == 125) = false:=by simpa using h5
      by_cases h4 : bAt s k = 44
      ·have h4' : (bAt s k != 44) = false:=by simp [h4]
       have hkl : k < s.size:=zar (by omega)
       have hr' : Hid (R = zaz (zaj (zac false s n) (enc false s n) s) s m' (k + 1) (acc ++ [f])):=by show _ = _;rw [hR.out,zaz,hx];simp only [show (acc.any fun g => g.1 == f.1) = false from hh,if_neg h5,if_pos h4];rfl
       clear hx hbd h5 h4
       go_wp2_with (first | (go_at_call 125;refine (hcall _).mono ?_;rintro e w1 ⟨ai,li,ci,af,lf,cf,rfl,hr1,hb1⟩;obtain ⟨hc1,hf1⟩:=zal hb1;have hz1 : wr.heap.size <= w1.heap.size:=hb1.size;have hz4 : w.heap.size < w1.heap.size:=(by omega)) | (go_at_call 112;refine (hasF _ _ hb1).mono ?_;rintro e w2 ⟨rfl,hb2⟩;obtain ⟨hc2,hf2⟩:=zal hb2;have hz2 : w1.heap.size < w2.heap.size:=(by have:=hb2.size;simp at this;omega);have hz5 : w.heap.size < w1.heap.size + 1:=(by omega)) | (at_builtin;refine wpList_append_lies _ rfl _ _ _ rfl (w.heap.size + 1) 171 i0 _ 7 104 Tryz.underlying133 hi0 hz0 hzz1 hzz2 rfl (by omega) _ acc.length xs rfl (hown3 _ _ _ _ hb1 hb2) ⟨w2.heap.size,0,none⟩ 1 1 [.int .i64 f.1,.int .i64 f.2.1.kind,.string f.2.1.letters,.bool f.2.1.op,.slice ai li ci,.slice af lf cf,.string f.2.2] rfl rfl (World.news_of_block (heap_alloc_new w2 _)) (by simp [Value.oneCell']) (by omega) (by unfold maxLen;omega) (by omega) (by simp;omega) (w2.heap.size + 1) (by simp) ?_;intro g' cap' w3 hown' hgrow hat hlt3;have hb3:=hbig _ _ _ _ _ hb1 hb2 hgrow;obtain ⟨hc3,hf3⟩:=zal hb3;have hz3 : w2.heap.size + 1 <= w3.heap.size:=(by have:=hgrow.size;simp at this;omega)) | (go_at_call 101;refine (zas _ _ _ (by omega) _hs).mono ?_;rintro e w3 ⟨rfl,rfl⟩))
       have hrow3:=zqi hrow hr1 hb1 hb2 hgrow hat (by omega) hg2
       have hl : (acc ++ [f]).length = acc.length + 1:=by simp
       rw [<- hl] at hown'
       go_roundw
       case rel =>
        exact ⟨k + 1,m',g',cap',acc ++ [f],_,by go_num,by rw [hl],by omega,by omega,by omega,by rw [hl];omega,hown',hrow3,hr',hb3⟩
       case measure => simp [intOf];omega
      ·have h4' : (bAt s k != 44) = true:=by simpa using h4
       have hr' : Hid (R = none):=by show _ = _;rw [hR.out,zaz,hx];simp only [show (acc.any fun g => g.1 == f.1) = false from hh,if_neg h5,if_neg h4];rfl
       clear hx hbd h5 h4
       go_wp2_with (first | (go_at_call 125;refine (hcall _).mono ?_;rintro e w1 ⟨ai,li,ci,af,lf,cf,rfl,hr1,hb1⟩;obtain ⟨hc1,hf1⟩:=zal hb1;have hz1 : wr.heap.size <= w1.heap.size:=hb1.size;have hz4 : w.heap.size < w1.heap.size:=(by omega)) | (go_at_call 112;refine (hasF _ _ hb1).mono ?_;rintro e w2 ⟨rfl,hb2⟩;obtain ⟨hc2,hf2⟩:=zal hb2;have hz2 : w1.heap.size < w2.heap.size:=(by have:=hb2.size;simp at this;omega);have hz5 : w.heap.size < w1.heap.size + 1:=(by omega)) | (at_builtin;refine wpList_append_lies _ rfl _ _ _ rfl (w.heap.size + 1) 171 i0 _ 7 104 Tryz.underlying133 hi0 hz0 hzz1 hzz2 rfl (by omega) _ acc.length xs rfl (hown3 _ _ _ _ hb1 hb2) ⟨w2.heap.size,0,none⟩ 1 1 [.int .i64 f.1,.int .i64 f.2.1.kind,.string f.2.1.letters,.bool f.2.1.op,.slice ai li ci,.slice af lf cf,.string f.2.2] rfl rfl (World.news_of_block (heap_alloc_new w2 _)) (by simp [Value.oneCell']) (by omega) (by unfold maxLen;omega) (by omega) (by simp;omega) (w2.heap.size + 1) (by simp) ?_;intro g' cap' w3 hown' hgrow hat hlt3;have hb3:=hbig _ _ _ _ _ hb1 hb2 hgrow;obtain ⟨hc3,hf3⟩:=zal hb3;have hz3 : w2.heap.size + 1 <= w3.heap.size:=(by have:=hgrow.size;simp at this;omega)) | (go_at_call 101;refine (zas _ _ _ (by omega) _hs).mono ?_;rintro e w3 ⟨rfl,rfl⟩))
       have hb0 : Below w.heap.size w w3:=((Below.refl _ _).alloc (Nat.le_refl _) _).trans (hb3.mono (by omega))
       (try simp only [Exit.inBlock,Exit.then])
       refine bodyPost_ret (v:=.tuple #[.agg #[.int .i64 0,.string ByteArray.empty,.bool false,.slice none 0 0,.slice none 0 0],.int .i64 a,.bool false]) (by simp [results,Tryz.results105,go_sem,hc3];rfl) rfl ?_
       rw [hr'.out]
       exact ⟨⟨a,rfl⟩,Below.set5 hb0 (Nat.le_refl _)⟩
  ·have hr' : Hid (R = none):=by
    show _ = _;rw [hR.out]
    cases m with
    | zero => rfl
    | succ m => rw [zaz,show zaj (zac false s n) (enc false s n) s a = none by unfold zaj;rw [zci s a (by omega),if_neg (by simp [isL])]]
   clear hbd
   go_wp2_with fail
   (try simp only [Exit.inBlock,Exit.then])
   refine bodyPost_ret (v:=.tuple #[.agg #[.int .i64 0,.string ByteArray.empty,.bool false,.slice none 0 0,.slice none 0 0],.int .i64 a,.bool false]) (by simp [results,Tryz.results105,go_sem,hcr,hzr];rfl) rfl ?_
   rw [hr'.out]
   exact ⟨⟨a,rfl⟩,Below.set5 hbw (Nat.le_refl _)⟩
end
end Go.Proofs.YtkkekopomiehlaaGreat
