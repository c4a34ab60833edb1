import Derived.Test.YtkkekopomiehlaaGreatCLn4
set_option linter.unusedVariables false
set_option linter.unusedSimpArgs false
set_option maxHeartbeats 40000000
set_option maxRecDepth 4000
namespace Go.Proofs.YtkkekopomiehlaaGreat
section
open Go.RowKit
theorem zko {w : World} {base n : Nat} {v : Value} {ms : List (Int × Int)} (h : w.ownsRow base 46 2 v n (mvC ms)) (hl : ms.length = n) : ∃ a c,v = .slice a n c /\ MvsAt w a ms:=by
 have h0:=h
 rcases h.2 with ⟨hv,hn⟩ | ⟨g,cap,cur,hv,_⟩
 ·subst hn
  have : ms = []:=List.eq_nil_of_length_eq_zero hl
  subst this
  exact ⟨none,0,hv,fun i m hi => by simp at hi⟩
 ·subst hv
  refine ⟨some ⟨g,0,none⟩,cap,rfl,fun i m hi => ⟨g,0,rfl,?_,?_⟩⟩
  ·have hc:=zkn hi []
   rw [List.append_nil] at hc
   have:=(List.getElem?_eq_some_iff.1 hi).1
   rw [Nat.zero_add,h0.cellAt _ (by omega)];exact hc.1
  ·have hc:=zkn hi []
   rw [List.append_nil] at hc
   have:=(List.getElem?_eq_some_iff.1 hi).1
   rw [Nat.zero_add,h0.cellAt _ (by omega)];exact hc.2
theorem zql (ms : List (Int × Int)) (hml : ms.length <= 2000000) (a b : Option Addr) (c d : Nat) (w : World) (h1 : MvsAt w a ms) (h2 : MvsAt w b ms) :
  Calls Tryz.prog 13 #[.slice a ms.length c,.slice b ms.length d] w fun e W => e = .returned (.bool true) /\ Below w.heap.size w W:=by
 have H1:= zab h1
 have H2:= zab h2
 clear h1 h2
 go_enter Tryz.func13,Tryz.ntmps13
 go_wp2_with fail
 go_loopw [5] (fun vi wr => ∃ i : Nat,i <= ms.length /\ vi = .int .i64 i /\ Below w.heap.size w wr) (fun i _ => ms.length - (intOf i).toNat)
 case atStart => exact ⟨0,Nat.zero_le _,rfl,Below.refl _ _⟩
 case round =>
  obtain ⟨i,hi,rfl,hb⟩:=hrel
  rename World => w5
  have hx0 := znn i
  by_cases hlt : i < ms.length
  ·obtain ⟨⟨x,y⟩,hm⟩ : ∃ m,ms[i]? = some m:=⟨ms[i],List.getElem?_eq_getElem hlt⟩
   obtain ⟨b1,o1,rfl,p1,p2⟩:=H1.out.keep hb i _ hm
   obtain ⟨b2,o2,rfl,q1,q2⟩:=H2.out.keep hb i _ hm
   simp only at p1 p2 q1 q2
   have hx1 : (i : Int) < (ms.length : Int):=by omega
   have hd1 : (x == x) = true:=by simp
   have hd2 : (x != x) = false:=by simp
   have hd3 : (y == y) = true:=by simp
   have hd4 : (y != y) = false:=by simp
   clear hm
   go_wp2_with fail
   go_quiet (fail)
   go_wp2_with fail
   go_roundw
   case rel => exact ⟨i + 1,by omega,by go_num,below_drewN hb _⟩
   case measure => simp [intOf];omega
  ·obtain rfl : i = ms.length:=by omega
   go_wp2_with fail
   go_ret
   exact ⟨rfl,hb⟩
def mkC (n : Nat) : List Value:=mvC (List.replicate n (-7,-7))
theorem zv2 (n : Nat) : (mkC n).length = n * 2:=by unfold mkC;rw [zkm];simp
theorem zki {n j : Nat} (h : j < n * 2) : (mkC n)[j]? = some (.int .i64 (-7)):=by
 unfold mkC;rw [zgu,List.getElem?_replicate,if_pos (by omega)];simp
theorem zvu (n cap : Nat) (hc : cap <= maxLen) (hn : n <= cap) (g : Nat) (w : World) (hr : RowIs w g 46 (mkC cap)) :
  Calls Tryz.prog 16 #[.slice (some ⟨g,0,none⟩) n cap] w fun e W => e = .returned (.bool true) /\ Below w.heap.size w W:=by
 unfold maxLen at hc
 have HR:= zab hr
 clear hr
 go_enter Tryz.func16,Tryz.ntmps16
 go_wp2_with fail
 go_loopw [4] (fun vi wr => ∃ i : Nat,i <= cap /\ vi = .int .i64 i /\ wr = w) (fun i _ => cap - (intOf i).toNat)
 case atStart => exact ⟨0,Nat.zero_le _,rfl,rfl⟩
 case round =>
  obtain ⟨i,hi,rfl,rfl⟩:=hrel
  have hx0 := znn i
  by_cases hlt : i < cap
  ·have p1:=HR.out.cell (zki (n:=cap) (j:=i * 2) (by omega))
   have p2:=HR.out.cell (zki (n:=cap) (j:=i * 2 + 1) (by omega))
   have hx1 : (i : Int) < (cap : Int):=by omega
   go_wp2_with fail
   go_roundw
   case rel => first | exact ⟨i + 1,by omega,by go_num,rfl⟩ | exact ⟨i + 1,by omega,by go_num,trivial⟩
   case measure => simp [intOf];omega
  ·obtain rfl : i = cap:=by omega
   go_wp2_with fail
   go_ret
   exact ⟨rfl,Below.refl _ _⟩
theorem zvw (w : World) : Calls Tryz.prog 16 #[.slice none 0 0] w fun e W => e = .returned (.bool true) /\ Below w.heap.size w W:=by
 go_enter Tryz.func16,Tryz.ntmps16
 go_wp2_with fail
 go_loopw [4] (fun vi wr => vi = .int .i64 0 /\ wr = w) (fun _ _ => 0)
 case atStart => exact ⟨rfl,rfl⟩
 case round =>
  obtain ⟨rfl,rfl⟩:=hrel
  go_wp2_with fail
  go_ret
  exact ⟨rfl,Below.refl _ _⟩
theorem zv3 {cs : List Value} {i : Nat} (hl : i * 2 + 1 < cs.length) (h : ∀ j,j < i * 2 -> cs[j]? = some (.int .i64 (-7))) : ∀ j,j < (i + 1) * 2 -> ((cs.set (i * 2) (.int .i64 (-7))).set (i * 2 + 1) (.int .i64 (-7)))[j]? = some (.int .i64 (-7)):=fun j hj => by
 by_cases h1 : j = i * 2 + 1
 ·subst h1;rw [List.getElem?_set_self (by simp;omega)]
 ·rw [List.getElem?_set_ne (by omega)]
  by_cases h2 : j = i * 2
  ·subst h2;rw [List.getElem?_set_self (by omega)]
  ·rw [List.getElem?_set_ne (by omega)];exact h j (by omega)
theorem zv1 {cs : List Value} {n : Nat} (hl : cs.length = n * 2) (h : ∀ j,j < n * 2 -> cs[j]? = some (.int .i64 (-7))) : cs = mkC n:=by
 refine List.ext_getElem? fun j => ?_
 by_cases hj : j < n * 2
 ·rw [h j hj,zki hj]
 ·rw [List.getElem?_eq_none (by omega),List.getElem?_eq_none (by rw [zv2];omega)]
theorem zvr (n cap : Nat) (hc : cap <= maxLen) (hn : n <= cap) (g : Nat) (cs0 : List Value) (hl0 : cs0.length = cap * 2) (w : World) (hr : RowIs w g 46 cs0) :
  Calls Tryz.prog 14 #[.slice (some ⟨g,0,none⟩) n cap] w fun e W => e = .returned (.tuple #[]) /\ RowIs W g 46 (mkC cap) /\ KeptBut g w W /\ Below g w W:=by
 unfold maxLen at hc
 have HR:= zab hr
 have HL0:= zab hl0
 clear hr hl0
 go_enter Tryz.func14,Tryz.ntmps14
 go_wp2_with fail
 go_loopw [3] (fun vi wr => ∃ (i : Nat) (cs : List Value),i <= cap /\ vi = .int .i64 i /\ Hid (cs.length = cap * 2) /\ Hid (∀ j,j < i * 2 -> cs[j]? = some (.int .i64 (-7))) /\ RowIs wr g 46 cs /\ Hid (KeptBut g w wr) /\ Hid (Below g w wr)) (fun i _ => cap - (intOf i).toNat)
 case atStart => exact ⟨0,cs0,Nat.zero_le _,rfl,HL0,fun j hj => by omega,HR.out,KeptBut.refl g w,Below.refl g w⟩
 case round =>
  obtain ⟨i,cs,hi,rfl,hl,hall,hrow,hk,hbw⟩:=hrel
  rename World => w5
  have hx0 := znn i
  by_cases hlt : i < cap
  ·obtain ⟨a0,h0⟩ : ∃ a,cs[i * 2]? = some a:=⟨cs[i * 2]'(by have:=hl.out;omega),List.getElem?_eq_getElem _⟩
   obtain ⟨a1,h1⟩ : ∃ a,cs[i * 2 + 1]? = some a:=⟨cs[i * 2 + 1]'(by have:=hl.out;omega),List.getElem?_eq_getElem _⟩
   have p1:=hrow.cell h0
   have p2:=hrow.cell h1
   have f1:=hrow.frozen (i * 2)
   have f2:=hrow.frozen (i * 2 + 1)
   have hx1 : (i : Int) < (cap : Int):=by omega
   have HROW:=(zab ((hrow.set (i * 2) (.int .i64 (-7))).set (i * 2 + 1) (.int .i64 (-7))))
   have HK:=(zab ((hk.out.set (p:=⟨g,i * 2,none⟩) (.inl rfl) (.int .i64 (-7))).set (p:=⟨g,i * 2 + 1,none⟩) (.inl rfl) (.int .i64 (-7))))
   have HB:=(zab ((hbw.out.setCell (p:=⟨g,i * 2,none⟩) (Nat.le_refl _) (.int .i64 (-7))).setCell (p:=⟨g,i * 2 + 1,none⟩) (Nat.le_refl _) (.int .i64 (-7))))
   have HALL:=(zab (zv3 (i:=i) (by have:=hl.out;omega) hall.out))
   clear hrow hk h0 h1
   go_wp2_with fail
   go_roundw
   case rel => exact ⟨i + 1,_,by omega,by go_num,(by have:=hl.out;show List.length _ = _;simpa using this),HALL,HROW.out,HK,HB⟩
   case measure => simp [intOf];omega
  ·obtain rfl : i = cap:=by omega
   have he:=zv1 hl.out hall.out
   subst he
   have HROW:= zab hrow
   clear hrow
   go_wp2_with fail
   go_end0
   exact ⟨rfl,HROW.out,hk.out,hbw.out⟩
theorem zvt (w : World) : Calls Tryz.prog 14 #[.slice none 0 0] w fun e W => e = .returned (.tuple #[]) /\ W = w:=by
 go_enter Tryz.func14,Tryz.ntmps14
 go_wp2_with fail
 go_loopw [3] (fun vi wr => vi = .int .i64 0 /\ wr = w) (fun _ _ => 0)
 case atStart => exact ⟨rfl,rfl⟩
 case round =>
  obtain ⟨rfl,rfl⟩:=hrel
  go_wp2_with fail
  go_end0
  exact ⟨rfl,rfl⟩
def otI (k n : Int) : Int:=if k = 0 then (if 1 < n then n - 1 else 0) else 0
theorem zo6 (k n : Int) (w : World) (hn : -9000000000000000000 <= n /\ n <= 9000000000000000000) : Calls Tryz.prog 40 #[.int .i64 k,.int .i64 n] w fun e W => e = .returned (.int .i64 (otI k n)) /\ Below w.heap.size w W:=by
 unfold otI
 by_cases hk : k = 0
 ·subst hk
  rw [if_pos rfl]
  by_cases h1 : 1 < n
  ·rw [if_pos h1]
   go_enter Tryz.func40,Tryz.ntmps40
   go_wp2_with fail
   go_ret
   exact ⟨rfl,Below.refl _ _⟩
  ·rw [if_neg h1]
   have h2 : n <= 1:=by omega
   go_enter Tryz.func40,Tryz.ntmps40
   go_wp2_with fail
   go_ret
   exact ⟨rfl,Below.refl _ _⟩
 ·rw [if_neg hk]
  have hk1 : (k == 0) = false:=by simpa using hk
  have hk2 : (k != 0) = true:=by simpa using hk
  go_enter Tryz.func40,Tryz.ntmps40
  go_wp2_with fail
  go_ret
  exact ⟨rfl,Below.refl _ _⟩
end
section
open Go.RowKit
structure KO (lo hi : Nat) (w w' : World) : Prop where
 sz : lo <= w.heap.size
 bel : Below lo w w'
 block : ∀ k,k < w.heap.size -> hi <= k -> w'.heap[k]? = w.heap[k]?
section
variable {lo hi : Nat} {w w1 w2 : World}
theorem KO.refl (hi : Nat) (h : lo <= w.heap.size) : KO lo hi w w:=⟨h,Below.refl _ _,fun _ _ _ => rfl⟩
theorem KO.below (h : KO lo hi w w1) (hb : Below w1.heap.size w1 w2) : KO lo hi w w2 :=
 ⟨h.sz,h.bel.trans (hb.mono (Nat.le_trans h.sz h.bel.size)),fun k hk hg => (hb.block k (Nat.lt_of_lt_of_le hk h.bel.size)).trans (h.block k hk hg)⟩
theorem KO.set (h : KO lo hi w w1) {p : Addr} (hp : lo <= p.block /\ p.block < hi) (u : Value) : KO lo hi w (w1.setCell p u) :=
 ⟨h.sz,h.bel.setCell hp.1 u,fun k hk hne => (Below.heap_setCell _ _ _ _ (by omega)).trans (h.block k hk hne)⟩
theorem KO.row (h : KO lo hi w w1) {g : Nat} {t : TypeId} {cs : List Value} (hr : RowIs w g t cs) (hg : g < lo \/ hi <= g) : RowIs w1 g t cs:=by
 have hlt:=hr.lt
 unfold RowIs at hr ⊢
 rcases hg with hg | hg
 ·rw [h.bel.block g hg];exact hr
 ·rw [h.block g hlt hg];exact hr
theorem RowIs.same {g : Nat} {t t' : TypeId} {cs cs' : List Value} (h : RowIs w g t cs) (h' : RowIs w g t' cs') : t = t' /\ cs = cs':=by
 unfold RowIs at h h'
 rw [h] at h'
 simp at h'
 exact ⟨h'.2,h'.1⟩
end
def isI (v : Value) : Prop:=∃ x : Int,v = .int .i64 x
def PinW (lo hi : Nat) (w : World) (g m : Nat) : Prop:=lo <= g /\ g < hi /\ m <= 2000000 /\ ∃ cs : List Value,RowIs w g 94 cs /\ m * 3 <= cs.length /\ ∀ v ∈ cs,isI v
def RelW (lo hi : Nat) (w : World) (g n : Nat) : Prop:=lo <= g /\ g < hi /\ n <= 2000000 /\ ∃ us : List Value,RowIs w g 92 us /\ ∀ j,j < n -> ∃ gp m c,us[j]? = some (.slice (some ⟨gp,0,none⟩) m c) /\ PinW lo hi w gp m
def SvcW (lo hi : Nat) (w : World) (g n : Nat) : Prop:=lo <= g /\ g < hi /\ ∃ cs : List Value,RowIs w g 67 cs /\ ∀ i,i < n -> ∃ (a b c : Int) (gr r rc : Nat),cs[i * 4]? = some (.int .i64 a) /\ cs[i * 4 + 1]? = some (.int .i64 b) /\ cs[i * 4 + 2]? = some (.int .i64 c) /\ cs[i * 4 + 3]? = some (.slice (some ⟨gr,0,none⟩) r rc) /\ RelW lo hi w gr r
section
variable {lo hi : Nat} {w w' : World}
theorem PinW.below {g m : Nat} (h : PinW lo hi w g m) (hb : Below w.heap.size w w') : PinW lo hi w' g m:=by
 obtain ⟨h1,h2,h3,cs,h4,h5,h6⟩:=h
 exact ⟨h1,h2,h3,cs,h4.keep hb,h5,h6⟩
theorem RelW.below {g n : Nat} (h : RelW lo hi w g n) (hb : Below w.heap.size w w') : RelW lo hi w' g n:=by
 obtain ⟨h1,h2,h3,cs,h4,h5⟩:=h
 refine ⟨h1,h2,h3,cs,h4.keep hb,fun j hj => ?_⟩
 obtain ⟨gp,m,c,k1,k2⟩:=h5 j hj
 exact ⟨gp,m,c,k1,k2.below hb⟩
theorem SvcW.below {g n : Nat} (h : SvcW lo hi w g n) (hb : Below w.heap.size w w') : SvcW lo hi w' g n:=by
 obtain ⟨h1,h2,cs,h4,h5⟩:=h
 refine ⟨h1,h2,cs,h4.keep hb,fun j hj => ?_⟩
 obtain ⟨a,b,c,gr,r,rc,k0,k1,k2,k3,k4⟩:=h5 j hj
 exact ⟨a,b,c,gr,r,rc,k0,k1,k2,k3,k4.below hb⟩
structure Wr (t : TypeId) (k : Nat) (u : Value) : Prop where
 r : t ≠ 92
 p : t = 94 -> isI u
 s : t = 67 -> isI u /\ k % 4 ≠ 3
 o : t = 89 -> isI u
theorem PinW.set {g m b k : Nat} {t : TypeId} {cs : List Value} {u : Value} (h : PinW lo hi w g m) (hr : RowIs w b t cs) (hw : Wr t k u) : PinW lo hi (w.setCell ⟨b,k,none⟩ u) g m:=by
 obtain ⟨h1,h2,h3,ds,h4,h5,h6⟩:=h
 by_cases e : b = g
 ·subst e
  obtain ⟨rfl,rfl⟩:=hr.same h4
  refine ⟨h1,h2,h3,_,hr.set k u,by simpa using h5,fun v hv => ?_⟩
  rcases List.mem_or_eq_of_mem_set hv with hv | rfl
  ·exact h6 v hv
  ·exact hw.p rfl
 ·exact ⟨h1,h2,h3,ds,h4.setOther (by exact e) u,h5,h6⟩
theorem RelW.set {g n b k : Nat} {t : TypeId} {cs : List Value} {u : Value} (h : RelW lo hi w g n) (hr : RowIs w b t cs) (hw : Wr t k u) : RelW lo hi (w.setCell ⟨b,k,none⟩ u) g n:=by
 obtain ⟨h1,h2,h3,us,h4,h5⟩:=h
 refine ⟨h1,h2,h3,us,h4.setOther (hr.ne h4 hw.r) u,fun j hj => ?_⟩
 obtain ⟨gp,m,c,k1,k2⟩:=h5 j hj
 exact ⟨gp,m,c,k1,k2.set hr hw⟩
theorem zlk {cs : List Value} {k j : Nat} {u : Value} {a : Int} (hu : isI u) (h : cs[j]? = some (.int .i64 a)) : ∃ a' : Int,(cs.set k u)[j]? = some (.int .i64 a'):=by
 by_cases e : k = j
 ·subst e
  obtain ⟨x,rfl⟩:=hu
  exact ⟨x,by rw [List.getElem?_set_self (List.getElem?_eq_some_iff.1 h).1]⟩
 ·exact ⟨a,by rw [List.getElem?_set_ne e];exact h⟩
theorem SvcW.set {g n b k : Nat} {t : TypeId} {cs : List Value} {u : Value} (h : SvcW lo hi w g n) (hr : RowIs w b t cs) (hw : Wr t k u) : SvcW lo hi (w.setCell ⟨b,k,none⟩ u) g n:=by
 obtain ⟨h1,h2,ds,h4,h5⟩:=h
 by_cases e : b = g
 ·subst e
  obtain ⟨rfl,rfl⟩:=hr.same h4
  obtain ⟨hi1,hi2⟩:=hw.s rfl
  refine ⟨h1,h2,_,hr.set k u,fun i hi => ?_⟩
  obtain ⟨a,b',c,gr,r,rc,k0,k1,k2,k3,k4⟩:=h5 i hi
  obtain ⟨a',q0⟩:=zlk (k:=k) hi1 k0
  obtain ⟨b'',q1⟩:=zlk (k:=k) hi1 k1
  obtain ⟨c',q2⟩:=zlk (k:=k) hi1 k2
  exact ⟨a',b'',c',gr,r,rc,q0,q1,q2,by rw [List.getElem?_set_ne (by omega)];exact k3,k4.set hr hw⟩
 ·refine ⟨h1,h2,ds,h4.setOther (by exact e) u,fun i hi => ?_⟩
  obtain ⟨a,b',c,gr,r,rc,k0,k1,k2,k3,k4⟩:=h5 i hi
  exact ⟨a,b',c,gr,r,rc,k0,k1,k2,k3,k4.set hr hw⟩
end
structure SpI (lo hi gs gt gv ns nt nv : Nat) (w wr : World) : Prop where
 ko : KO lo hi w wr
 s : ∃ cs,RowIs wr gs 9 cs /\ ns <= cs.length
 t : ∃ cs,RowIs wr gt 89 cs /\ nt <= cs.length /\ ∀ v ∈ cs,isI v
 v : SvcW lo hi wr gv nv
section
variable {lo hi gs gt gv ns nt nv : Nat} {w wr wr' : World}
theorem SpI.below (h : SpI lo hi gs gt gv ns nt nv w wr) (hb : Below wr.heap.size wr wr') : SpI lo hi gs gt gv ns nt nv w wr':=by
 obtain ⟨cs,h1,h2⟩:=h.s
 obtain ⟨ds,h3,h4,h5⟩:=h.t
 exact ⟨h.ko.below hb,⟨cs,h1.keep hb,h2⟩,⟨ds,h3.keep hb,h4,h5⟩,h.v.below hb⟩
theorem SpI.set (h : SpI lo hi gs gt gv ns nt nv w wr) {b k : Nat} {t : TypeId} {cs : List Value} {u : Value} (hl : lo <= b /\ b < hi) (hr : RowIs wr b t cs) (hw : Wr t k u) : SpI lo hi gs gt gv ns nt nv w (wr.setCell ⟨b,k,none⟩ u):=by
 obtain ⟨ss,h1,h2⟩:=h.s
 obtain ⟨ds,h3,h4,h5⟩:=h.t
 refine ⟨h.ko.set hl u,?_,?_,h.v.set hr hw⟩
 ·by_cases e : b = gs
  ·subst e;exact ⟨_,h1.set k u,by simpa using h2⟩
  ·exact ⟨ss,h1.setOther (by exact e) u,h2⟩
 ·by_cases e : b = gt
  ·subst e
   obtain ⟨rfl,rfl⟩:=hr.same h3
   refine ⟨_,h3.set k u,by simpa using h4,fun v hv => ?_⟩
   rcases List.mem_or_eq_of_mem_set hv with hv | rfl
   ·exact h5 v hv
   ·exact hw.o rfl
  ·exact ⟨ds,h3.setOther (by exact e) u,h4,h5⟩
end
end
section
open Go.RowKit
theorem zn7 (w : World) (o : Obj) : (w.alloc o).heap[w.heap.size]? = some o:=by show (w.heap.push o)[w.heap.size]? = some o;simp
theorem yabi (k : Nat) (u : Value) : Wr 9 k u:=⟨by decide,fun e => absurd e (by decide),fun e => absurd e (by decide),fun e => absurd e (by decide)⟩
theorem yabj (k : Nat) (x : Int) : Wr 89 k (.int .i64 x):=⟨by decide,fun e => absurd e (by decide),fun e => absurd e (by decide),fun _ => ⟨x,rfl⟩⟩
theorem zf2 (k : Nat) (x : Int) : Wr 94 k (.int .i64 x):=⟨by decide,fun _ => ⟨x,rfl⟩,fun e => absurd e (by decide),fun e => absurd e (by decide)⟩
theorem zl6 {k : Nat} (x : Int) (hk : k % 4 ≠ 3) : Wr 67 k (.int .i64 x):=⟨by decide,fun e => absurd e (by decide),fun _ => ⟨⟨x,rfl⟩,hk⟩,fun e => absurd e (by decide)⟩
structure SpJ (lo hi gs gt gv ns nt nv : Nat) (L : List Value) (w wr : World) : Prop where
 i : SpI lo hi gs gt gv ns nt nv w wr
 l : RowIs wr w.heap.size 26 L
section
variable {lo hi gs gt gv ns nt nv : Nat} {L : List Value} {w wr wr' : World}
theorem SpJ.below (h : SpJ lo hi gs gt gv ns nt nv L w wr) (hb : Below wr.heap.size wr wr') : SpJ lo hi gs gt gv ns nt nv L w wr':=⟨h.i.below hb,h.l.keep hb⟩
theorem SpJ.set (h : SpJ lo hi gs gt gv ns nt nv L w wr) (hhi : hi <= w.heap.size) {b k : Nat} {t : TypeId} {cs : List Value} {u : Value} (hl : lo <= b /\ b < hi) (hr : RowIs wr b t cs) (hw : Wr t k u) : SpJ lo hi gs gt gv ns nt nv L w (wr.setCell ⟨b,k,none⟩ u) :=
 ⟨h.i.set hl hr hw,h.l.setOther (by show b ≠ _;omega) u⟩
theorem PinW.row {g m : Nat} (h : PinW lo hi wr g m) : ∃ cs,RowIs wr g 94 cs:=by
 obtain ⟨_,_,_,cs,h,_⟩:=h;exact ⟨cs,h⟩
end
structure SpK (lo hi gs gt gv ns nt nv : Nat) (L : List Value) (sb : Nat) (M : List Value) (gr r : Nat) (w wr : World) : Prop where
 j : SpJ lo hi gs gt gv ns nt nv L w wr
 m : RowIs wr sb 67 M
 r : RelW lo hi wr gr r
section
variable {lo hi gs gt gv ns nt nv : Nat} {L : List Value} {sb : Nat} {M : List Value} {gr r : Nat} {w wr wr' : World}
theorem SpK.below (h : SpK lo hi gs gt gv ns nt nv L sb M gr r w wr) (hb : Below wr.heap.size wr wr') : SpK lo hi gs gt gv ns nt nv L sb M gr r w wr':=⟨h.j.below hb,h.m.keep hb,h.r.below hb⟩
theorem SpK.set (h : SpK lo hi gs gt gv ns nt nv L sb M gr r w wr) (hhi : hi <= w.heap.size) (hsb : hi <= sb) {b k : Nat} {t : TypeId} {cs : List Value} {u : Value} (hl : lo <= b /\ b < hi) (hr : RowIs wr b t cs) (hw : Wr t k u) : SpK lo hi gs gt gv ns nt nv L sb M gr r w (wr.setCell ⟨b,k,none⟩ u) :=
 ⟨h.j.set hhi hl hr hw,h.m.setOther (by show b ≠ _;omega) u,h.r.set hr hw⟩
theorem SpK.pin3 (h : SpK lo hi gs gt gv ns nt nv L sb M gr r w wr) (hhi : hi <= w.heap.size) (hsb : hi <= sb) {g m : Nat} (hp : PinW lo hi wr g m) (k : Nat) (x : Int) :
  SpK lo hi gs gt gv ns nt nv L sb M gr r w (((wr.setCell ⟨g,k,none⟩ (.int .i64 x)).setCell ⟨g,k + 1,none⟩ (.int .i64 (-1))).setCell ⟨g,k + 2,none⟩ (.int .i64 (-1))) /\ PinW lo hi (((wr.setCell ⟨g,k,none⟩ (.int .i64 x)).setCell ⟨g,k + 1,none⟩ (.int .i64 (-1))).setCell ⟨g,k + 2,none⟩ (.int .i64 (-1))) g m:=by
 obtain ⟨cs,h0⟩:=hp.row
 have hl : lo <= g /\ g < hi:=⟨hp.1,hp.2.1⟩
 have h1:=h0.set k (.int .i64 x)
 have h2:=h1.set (k + 1) (.int .i64 (-1))
 exact ⟨((h.set hhi hsb hl h0 (zf2 _ _)).set hhi hsb hl h1 (zf2 _ _)).set hhi hsb hl h2 (zf2 _ _),((hp.set h0 (zf2 _ _)).set h1 (zf2 _ _)).set h2 (zf2 _ _)⟩
end
theorem zzq (lo hi gs gt gv ns nt nv sc tc vc : Nat) (w : World) (hs : lo <= gs /\ gs < hi) (ht : lo <= gt /\ gt < hi) (hhi : hi <= w.heap.size) (hn1 : ns <= 2000000) (hn2 : nt <= 2000000) (hn3 : nv <= 2000000) (h : SpI lo hi gs gt gv ns nt nv w w) :
  Calls Tryz.prog 15 #[.agg #[.slice (some ⟨gs,0,none⟩) ns sc,.slice (some ⟨gt,0,none⟩) nt tc,.slice (some ⟨gv,0,none⟩) nv vc]] w fun e W => e = .returned (.tuple #[]) /\ KO lo hi w W:=by
 have H0 : Hid (SpJ lo hi gs gt gv ns nt nv [.slice (some ⟨gs,0,none⟩) ns sc,.slice (some ⟨gt,0,none⟩) nt tc,.slice (some ⟨gv,0,none⟩) nv vc] w (w.alloc (.cells #[.slice (some ⟨gs,0,none⟩) ns sc,.slice (some ⟨gt,0,none⟩) nt tc,.slice (some ⟨gv,0,none⟩) nv vc] 26))) :=
  ⟨h.below (bel1 _ _),zn7 w _⟩
 clear h
 go_enter Tryz.func15,Tryz.ntmps15
 go_wp2_with fail
 go_loopw [2] (fun vi wr => ∃ i : Nat,i <= ns /\ vi = .int .i64 i /\ Hid (SpJ lo hi gs gt gv ns nt nv [.slice (some ⟨gs,0,none⟩) ns sc,.slice (some ⟨gt,0,none⟩) nt tc,.slice (some ⟨gv,0,none⟩) nv vc] w wr)) (fun i _ => ns - (intOf i).toNat)
 case atStart => exact ⟨0,Nat.zero_le _,rfl,H0⟩
 case round =>
  clear H0
  obtain ⟨i,hi',rfl,HI⟩:=hrel
  rename World => w5
  have hx0 := znn i
  have k0:=HI.out.l.cell (j:=0) rfl
  have k1:=HI.out.l.cell (j:=1) rfl
  have hll:=HI.out.l.lt
  by_cases hlt : i < ns
  ·obtain ⟨cs,hr,hl⟩:=HI.out.i.s
   obtain ⟨a,ha⟩ : ∃ a,cs[i]? = some a:=⟨cs[i]'(by omega),List.getElem?_eq_getElem _⟩
   have p1:=hr.cell ha
   have f1:=hr.frozen i
   have hx1 : (i : Int) < (ns : Int):=by omega
   have HI2:=(zab (HI.out.set hhi hs hr (yabi i (.string ⟨#[115]⟩))))
   clear hr ha HI
   go_wp2_with fail
   go_roundw
   case rel => exact ⟨i + 1,by omega,by go_num,HI2⟩
   case measure => simp [intOf];omega
  ·obtain rfl : ns = i:=by omega
   clear hx0
   go_wp2_with fail
   go_loopw [3] (fun vi wr => ∃ i : Nat,i <= nt /\ vi = .int .i64 i /\ Hid (SpJ lo hi gs gt gv ns nt nv [.slice (some ⟨gs,0,none⟩) ns sc,.slice (some ⟨gt,0,none⟩) nt tc,.slice (some ⟨gv,0,none⟩) nv vc] w wr)) (fun i _ => nt - (intOf i).toNat)
   case atStart => exact ⟨0,Nat.zero_le _,rfl,HI⟩
   case round =>
    clear HI k0 k1 hll
    obtain ⟨i,hi',rfl,HI⟩:=hrel
    rename World => w5
    have hx0 := znn i
    have k1:=HI.out.l.cell (j:=1) rfl
    have hll:=HI.out.l.lt
    by_cases hlt : i < nt
    ·obtain ⟨cs,hr,hl,hall⟩:=HI.out.i.t
     obtain ⟨a,ha⟩ : ∃ a,cs[i]? = some a:=⟨cs[i]'(by omega),List.getElem?_eq_getElem _⟩
     obtain ⟨x,rfl⟩:=hall a (List.mem_of_getElem? ha)
     have p1:=hr.cell ha
     have hx1 : (i : Int) < (nt : Int):=by omega
     have hot:=fun W => zo6 x 7 W (by omega)
     have hgtl:=hr.lt
     have HRR:= zab hr
     clear hr ha hall
     go_wp2_with fail
     go_region_with (first | (go_at_call 40;refine (hot _).mono ?_;rintro e w6 ⟨rfl,hb6⟩;have k16:=zaa hb6 k1;have p16:=zaa hb6 p1;have f16:=(RowIs.keep (w:=w5.drew) HRR.out hb6).frozen i;have z6:=hb6.size))
     all_goals
      go_wp2_with fail
      go_roundw
      case rel => exact ⟨i + 1,by omega,by go_num,(HI.out.below (thn3 (Below.refl _ _).drew hb6)).set hhi ht (RowIs.keep (w:=w5.drew) HRR.out hb6) (yabj i _)⟩
      case measure => simp [intOf];omega
    ·obtain rfl : nt = i:=by omega
     clear hx0
     go_wp2_with fail
     go_loopw [4] (fun vi wr => ∃ i : Nat,i <= nv /\ vi = .int .i64 i /\ Hid (SpJ lo hi gs gt gv ns nt nv [.slice (some ⟨gs,0,none⟩) ns sc,.slice (some ⟨gt,0,none⟩) nt tc,.slice (some ⟨gv,0,none⟩) nv vc] w wr)) (fun i _ => nv - (intOf i).toNat)
     case atStart => exact ⟨0,Nat.zero_le _,rfl,HI⟩
     case round =>
      clear HI k1 hll
      obtain ⟨i,hi',rfl,HI⟩:=hrel
      rename World => w5
      have hx0 := znn i
      have k2:=HI.out.l.cell (j:=2) rfl
      have hll:=HI.out.l.lt
      by_cases hlt : i < nv
      ·obtain ⟨hg1,hg2,cs,hr,hall⟩:=HI.out.i.v
       obtain ⟨a,b,c,gr,r,rc,q0,q1,q2,q3,hrel'⟩:=hall i hlt
       have p0:=hr.cell q0
       have p1:=hr.cell q1
       have p2:=hr.cell q2
       have p3:=hr.cell q3
       have hgl:=hr.lt
       have hx1 : (i : Int) < (nv : Int):=by omega
       have hrn : r <= 2000000:=hrel'.2.2.1
       have HK0 : Hid (SpK lo hi gs gt gv ns nt nv [.slice (some ⟨gs,0,none⟩) ns sc,.slice (some ⟨gt,0,none⟩) nt tc,.slice (some ⟨gv,0,none⟩) nv vc] w5.heap.size [.int .i64 a,.int .i64 b,.int .i64 c,.slice (some ⟨gr,0,none⟩) r rc] gr r w (w5.alloc (.cells #[.int .i64 a,.int .i64 b,.int .i64 c,.slice (some ⟨gr,0,none⟩) r rc] 67))):=⟨HI.out.below (bel1 _ _),zn7 _ _,hrel'.below (bel1 _ _)⟩
       clear hr hall q0 q1 q2 q3 hrel' HI
       go_wp2_with fail
       go_loopw [6] (fun vj wr => ∃ j : Nat,j <= r /\ vj = .int .i64 j /\ Hid (SpK lo hi gs gt gv ns nt nv [.slice (some ⟨gs,0,none⟩) ns sc,.slice (some ⟨gt,0,none⟩) nt tc,.slice (some ⟨gv,0,none⟩) nv vc] w5.heap.size [.int .i64 a,.int .i64 b,.int .i64 c,.slice (some ⟨gr,0,none⟩) r rc] gr r w wr)) (fun j _ => r - (intOf j).toNat)
       case atStart => exact ⟨0,Nat.zero_le _,rfl,HK0⟩
       case round =>
        clear HK0 p0 p1 p2 p3 k2
        obtain ⟨j,hj,rfl,HK⟩:=hrel
        rename World => w6
        have hy0 := znn j
        have s1:=HK.out.m.cell (j:=1) rfl
        have s3:=HK.out.m.cell (j:=3) rfl
        have hsl:=HK.out.m.lt
        have hbx:=HK.out.j.l.lt
        by_cases hlj : j < r
        ·obtain ⟨_,_,_,us,hus,hpins⟩:=HK.out.r
         obtain ⟨gp,m,cc,hu,hpw⟩:=hpins j hlj
         have pu:=hus.cell hu
         have hgrl:=hus.lt
         have hm2 : m <= 2000000:=hpw.2.2.1
         have hy1 : (j : Int) < (r : Int):=by omega
         have HPW:= zab hpw
         clear hus hpins hu hpw
         go_wp2_with fail
         go_loopw [8] (fun vk wr => ∃ k : Nat,k <= m /\ vk = .int .i64 k /\ Hid (SpK lo hi gs gt gv ns nt nv [.slice (some ⟨gs,0,none⟩) ns sc,.slice (some ⟨gt,0,none⟩) nt tc,.slice (some ⟨gv,0,none⟩) nv vc] w5.heap.size [.int .i64 a,.int .i64 b,.int .i64 c,.slice (some ⟨gr,0,none⟩) r rc] gr r w wr) /\ Hid (PinW lo hi wr gp m)) (fun k _ => m - (intOf k).toNat)
         case atStart => exact ⟨0,Nat.zero_le _,rfl,HK,HPW⟩
         case round =>
          clear HK HPW pu s1 s3
          obtain ⟨k,hk,rfl,HK,HPW⟩:=hrel
          rename World => w7
          have hz0 := znn k
          by_cases hlk : k < m
          ·obtain ⟨_,_,_,ps,hps,hpl,hpi⟩:=HPW.out
           obtain ⟨v0,hv0⟩ : ∃ v,ps[k * 3]? = some v:=⟨ps[k * 3]'(by omega),List.getElem?_eq_getElem _⟩
           obtain ⟨v1,hv1⟩ : ∃ v,ps[k * 3 + 1]? = some v:=⟨ps[k * 3 + 1]'(by omega),List.getElem?_eq_getElem _⟩
           obtain ⟨v2,hv2⟩ : ∃ v,ps[k * 3 + 2]? = some v:=⟨ps[k * 3 + 2]'(by omega),List.getElem?_eq_getElem _⟩
           obtain ⟨x,rfl⟩:=hpi v0 (List.mem_of_getElem? hv0)
           have c0:=hps.cell hv0
           have c1:=hps.cell hv1
           have c2:=hps.cell hv2
           have e0:=hps.frozen (k * 3)
           have e1:=hps.frozen (k * 3 + 1)
           have e2:=hps.frozen (k * 3 + 2)
           have hz1 : (k : Int) < (m : Int):=by omega
           have hgpl:=hps.lt
           have H3:=(zab (HK.out.pin3 hhi (by omega) HPW.out (k * 3) x))
           clear hps hpi hv0 hv1 hv2 HK HPW
           go_wp2_with fail
           go_roundw
           case rel => exact ⟨k + 1,by omega,by go_num,H3.out.1,H3.out.2⟩
           case measure => simp [intOf];omega
          ·obtain rfl : m = k:=by omega
           go_wp2_with fail
           go_roundw
           case rel => exact ⟨j + 1,by omega,by go_num,HK⟩
           case measure => simp [intOf];omega
        ·obtain rfl : r = j:=by omega
         obtain ⟨hg1,hg2,cs,hr,hall⟩:=HK.out.j.i.v
         obtain ⟨a',b',c',_,_,_,q0,q1,q2,_,_⟩:=hall i hlt
         have k2:=HK.out.j.l.cell (j:=2) rfl
         have p0:=hr.cell q0
         have e0:=hr.frozen (i * 4)
         have e1:=hr.frozen (i * 4 + 1)
         have e2:=hr.frozen (i * 4 + 2)
         have hgl6:=hr.lt
         have hr1:=hr.set (i * 4) (.int .i64 1)
         have HJ1:=(zab (HK.out.set hhi (by omega) (b:=gv) ⟨hg1,hg2⟩ hr (zl6 (k:=i * 4) 1 (by omega))))
         have HR1:= zab hr1
         have hot:=fun W => zo6 b (r : Int) W (by omega)
         clear hr hall hr1 q0 q1 q2
         go_wp2_with fail
         clear HK s1 s3 k2 p0 e0 e1 e2 hsl hbx hgl6 HR1
         generalize (w6.setCell ⟨gv,i * 4,none⟩ (.int .i64 1)) = w7 at HJ1 ⊢
         obtain ⟨_,_,cs7,hr7,hall7⟩:=HJ1.out.j.i.v
         obtain ⟨a7,b7,c7,_,_,_,_,q1,_,_,_⟩:=hall7 i hlt
         have k2:=HJ1.out.j.l.cell (j:=2) rfl
         have s1:=HJ1.out.m.cell (j:=1) rfl
         have s3:=HJ1.out.m.cell (j:=3) rfl
         have hsl:=HJ1.out.m.lt
         have hbx:=HJ1.out.j.l.lt
         have p1:=hr7.cell q1
         have hgl7:=hr7.lt
         have HR7:= zab hr7
         clear hr7 hall7 q1
         have hn1 : gv ≠ w.heap.size:=by omega
         have hn2 : gv ≠ w5.heap.size:=by omega
         go_region_held3 (fun w' => w'.cell? ⟨w.heap.size,2,none⟩ = some (.slice (some ⟨gv,0,none⟩) nv vc) /\ w'.cell? ⟨w5.heap.size,1,none⟩ = some (.int .i64 b) /\ w'.cell? ⟨w5.heap.size,3,none⟩ = some (.slice (some ⟨gr,0,none⟩) r rc)) (first | go_keep | exact ⟨by rw [World.cell?_setCell_other (by simp [hn1])];assumption,by rw [World.cell?_setCell_other (by simp [hn2])];assumption,by rw [World.cell?_setCell_other (by simp [hn2])];assumption⟩) (first | (go_at_call 40;refine (hot _).mono ?_;rintro e w8 ⟨rfl,hb8⟩;have k28:=zaa hb8 k2;have s18:=zaa hb8 s1;have s38:=zaa hb8 s3;have p18:=zaa hb8 p1;have f18:=(RowIs.keep (w:=w7.drew) HR7.out hb8).frozen (i * 4 + 1);have z8:=hb8.size))
         all_goals
          have HJ2:=(zab ((HJ1.out.below (thn3 (Below.refl _ _).drew hb8)).set hhi (by omega) (b:=gv) ⟨hg1,hg2⟩ (RowIs.keep (w:=w7.drew) HR7.out hb8) (zl6 (k:=i * 4 + 1) (otI b (r : Int)) (by omega))))
          clear HJ1 HR7 k2 s1 s3 hsl hbx p1 hgl7 k28 s18 s38 p18 f18 hb8 z8
          generalize (w8.setCell ⟨gv,i * 4 + 1,none⟩ (.int .i64 (otI b (r : Int)))) = w9 at HJ2 ⊢
          obtain ⟨_,_,cs9,hr9,hall9⟩:=HJ2.out.j.i.v
          obtain ⟨a9,b9,c9,_,_,_,_,_,q2,_,_⟩:=hall9 i hlt
          have k2:=HJ2.out.j.l.cell (j:=2) rfl
          have s1:=HJ2.out.m.cell (j:=1) rfl
          have hsl:=HJ2.out.m.lt
          have hbx:=HJ2.out.j.l.lt
          have p2:=hr9.cell q2
          have e2:=hr9.frozen (i * 4 + 2)
          have hgl9:=hr9.lt
          have HJ3:=(zab (HJ2.out.set hhi (by omega) (b:=gv) ⟨hg1,hg2⟩ hr9 (zl6 (k:=i * 4 + 2) b (by omega))).j)
          clear hr9 hall9 q2 HJ2
          go_wp2_with fail
          go_roundw
          case rel => exact ⟨i + 1,by omega,by go_num,HJ3⟩
          case measure => simp [intOf];omega
      ·obtain rfl : nv = i:=by omega
       go_wp2_with fail
       go_end0
       exact ⟨rfl,HI.out.i.ko⟩
end
end Go.Proofs.YtkkekopomiehlaaGreat
