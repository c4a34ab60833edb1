import Derived.Test.YtkkekopomiehlaaGreatCRef4
set_option linter.unusedVariables false
set_option linter.unusedSimpArgs false
set_option maxHeartbeats 40000000
namespace Go.Proofs.YtkkekopomiehlaaGreat
section
set_option maxRecDepth 4000
open Go.RowKit
def RowR (n : Nat) (s : ByteArray) (xs : List Value) (fs : List (Nat × Ty × ByteArray)) : Prop :=
 xs.length = fs.length * 4 /\ ∀ i f,fs[i]? = some f -> ∃ p k : Nat,zac true s n p = some (f.2.1,k) /\ s.size <= p + n /\ f.1 < 256 /\ xs[i * 4]? = some (.int .u8 f.1) /\ xs[i * 4 + 1]? = some (.int .i64 p) /\ xs[i * 4 + 2]? = some (.bool (decide (0 < f.2.2.size))) /\ xs[i * 4 + 3]? = some (.string f.2.2)
theorem RowR.nil {n : Nat} {s : ByteArray} : RowR n s [] []:=⟨rfl,fun i f hi => by simp at hi⟩
theorem RowR.snoc {n : Nat} {s : ByteArray} {xs : List Value} {fs : List (Nat × Ty × ByteArray)} (h : RowR n s xs fs) {f : Nat × Ty × ByteArray} {p k : Nat} (hp : zac true s n p = some (f.2.1,k)) (hn : s.size <= p + n) (h1 : f.1 < 256) :
  RowR n s (xs ++ [.int .u8 f.1,.int .i64 p,.bool (decide (0 < f.2.2.size)),.string f.2.2]) (fs ++ [f]):=by
 refine ⟨by simp [h.1];omega,fun i g hi => ?_⟩
 by_cases hl : i < fs.length
 ·rw [List.getElem?_append_left hl] at hi
  obtain ⟨q,k',a1,a2,a3,h2⟩:=h.2 i g hi
  have hx:=h.1
  refine ⟨q,k',a1,a2,a3,?_⟩
  rw [List.getElem?_append_left (by omega),List.getElem?_append_left (by omega),List.getElem?_append_left (by omega),List.getElem?_append_left (by omega)]
  exact h2
 ·rw [List.getElem?_append_right (by omega)] at hi
  obtain rfl : i = fs.length:=by
   rcases Nat.eq_or_lt_of_le (Nat.le_of_not_lt hl) with h | h
   ·exact h.symm
   ·rw [List.getElem?_eq_none (by simp;omega)] at hi;cases hi
  simp at hi
  subst hi
  have hx:=h.1
  refine ⟨p,k,hp,hn,h1,?_⟩
  rw [<- hx]
  refine ⟨?_,?_,?_,?_⟩ <;> (rw [List.getElem?_append_right (by omega)];simp)
theorem zhy {X : World} {o : Obj} {b : Nat} (h : X.heap.size = b) : (X.alloc o).heap[b]? = some o:=by subst h;exact heap_alloc_new X o
theorem zc6 (w : World) (p : Nat) (v2 v3 : Value) : ((w.setCell ⟨p,2,none⟩ v2).setCell ⟨p,3,none⟩ v3).heap.size = w.heap.size:=by simp [World.setCell]
def endI : Option (Ty × Nat) -> Int
 | some (_,k) => k
 | none => -1
def EndsOK (n : Nat) (s : ByteArray) : Prop:=∀ (i : Nat) (w : World),s.size <= i + n -> i <= s.size + 1 ->
 Calls Tryz.prog 75 #[.string s,.int .i64 i] w fun e w' => e = .returned (.int .i64 (endI (zac true s n i))) /\ Below w.heap.size w w'
theorem EndsOK.no {n : Nat} {s : ByteArray} (IH : EndsOK n s) {i : Nat} (w : World) (hi : s.size <= i + n) (hi2 : i <= s.size + 1) (hx : zac true s n i = none) :
  Calls Tryz.prog 75 #[.string s,.int .i64 i] w fun e w' => e = .returned (.int .i64 (-1)) /\ Below w.heap.size w w':=by
 have:=IH i w hi hi2;rw [hx] at this;exact this
theorem EndsOK.yes {n : Nat} {s : ByteArray} (IH : EndsOK n s) {i : Nat} (w : World) (hi : s.size <= i + n) (hi2 : i <= s.size + 1) {ty : Ty} {k : Nat} (hx : zac true s n i = some (ty,k)) :
  Calls Tryz.prog 75 #[.string s,.int .i64 i] w fun e w' => e = .returned (.int .i64 k) /\ Below w.heap.size w w':=by
 have:=IH i w hi hi2;rw [hx] at this;exact this
def zb2 (fs : List (Nat × Ty × ByteArray)) : ByteArray:=⟨(fs.map fun f => f.1.toUInt8).toArray⟩
theorem zdy (fs : List (Nat × Ty × ByteArray)) : (zb2 fs).size = fs.length:=by simp [zb2,ByteArray.size]
theorem zug (s : ByteArray) (a : Nat) (h : a < s.size) : s.extract a (a + 1) = ⟨#[s[a]]⟩:=by
 apply ByteArray.ext
 rw [ByteArray.data_extract]
 apply Array.ext
 ·simp;have : a < s.data.size:=h;omega
 ·intro i h1 h2
  simp at h2
  subst h2
  simp
  rfl
theorem zot (s : ByteArray) (a : Nat) (h : a < s.size) (fs : List (Nat × Ty × ByteArray)) (t : Ty) (d : ByteArray) : zb2 fs ++ s.extract a (a + 1) = zb2 (fs ++ [((bAt s a).toNat,t,d)]):=by
 rw [zug s a h]
 apply ByteArray.ext
 simp [zb2,za1 s a h]
def zby (pf : Nat -> Option ((Nat × Ty × ByteArray) × Nat)) (s : ByteArray) : Nat -> Nat -> List (Nat × Ty × ByteArray) -> Option (List (Nat × Ty × ByteArray) × Nat)
 | 0,_,_ => none
 | m + 1,a,acc =>
  match pf a with
  | none => none
  | some (f,k) => if bAt s k = 44 then zby pf s m (k + 1) (acc ++ [f]) else some (acc ++ [f],k)
def fin (s : ByteArray) : Option (List (Nat × Ty × ByteArray) × Nat) -> Option (List (Nat × Ty × ByteArray) × Nat)
 | none => none
 | some (fs,k) => if tw (zb2 fs) = true \/ ¬ bAt s k = 125 then none else some (fs,k + 1)
def GRet (B n : Nat) (s : ByteArray) (r : Option (List (Nat × Ty × ByteArray) × Nat)) (e : Ending) (w' : World) : Prop :=
 match r with
 | some (fs,k) => ∃ g cap xs,e = .returned (.tuple #[.slice (some ⟨g,0,none⟩) fs.length cap,.int .i64 k]) /\ w'.ownsRow B 176 4 (.slice (some ⟨g,0,none⟩) fs.length cap) fs.length xs /\ RowR n s xs fs
 | none => e = .returned (.tuple #[.slice none 0 0,.int .i64 (-1)])
theorem Tryz.infoRField : (Tryz.prog.info? 176).map (fun i => (i.zero,i.size,i.bytes)) = some (some (.agg #[.int .u8 0,.int .i64 0,.bool false,.string ⟨#[]⟩]),4,40):=by kernel_rfl
theorem zam {P : Program} {f : FuncId} {args : Array Value} {w : World} {r : Ending} (h : Calls P f args w fun e w' => e = r /\ w' = w) : Calls P f args w fun e w' => e = r /\ w = w':=h.mono (fun _ _ ⟨a,b⟩ => ⟨a,b.symm⟩)
set_option maxRecDepth 10000 in
theorem zuj {n : Nat} {s : ByteArray} (IE : EndsOK n s) (IL : LayOK n s s) (hs : s.size <= 4096) (hn100 : n <= 100) (i0 : Nat) (w : World) (hi0 : i0 < s.size) (hn : s.size <= i0 + 1 + n) :
  Calls Tryz.prog 94 #[.string s,.int .i64 i0] w fun e w' => GRet w.heap.size n s (fin s (zby (zaj (zac true s n) (enc true s n) s) s (s.size - (i0 + 1)) (i0 + 1) [])) e w' /\ Below w.heap.size w w':=by
 have _hs : s.size <= 9000000:=by omega
 obtain ⟨R,hR⟩ : ∃ R,R = zby (zaj (zac true s n) (enc true s n) s) s (s.size - (i0 + 1)) (i0 + 1) []:=⟨_,rfl⟩
 rw [<- hR]
 have HR : Hid (R = zby (zaj (zac true s n) (enc true s n) s) s (s.size - (i0 + 1)) (i0 + 1) []):=hR
 clear hR
 go_enter Tryz.func94,Tryz.ntmps94
 go_wp2_with fail
 go_loopw [6,7,8] (fun vl vn vk wr => ∃ (b m : Nat) (acc : List (Nat × Ty × ByteArray)) (xs : List Value),vk = .int .i64 b /\ vn = .string (zb2 acc) /\ i0 <= b /\ b <= s.size /\ s.size <= b + 1 + m /\ acc.length <= b /\
   wr.ownsRow w.heap.size 176 4 vl acc.length xs /\ RowR n s xs acc /\ Hid (R = zby (zaj (zac true s n) (enc true s n) s) s m (b + 1) acc) /\ Below w.heap.size w wr) (fun _ _ k _ => s.size + 1 - (intOf k).toNat)
 case atStart => exact ⟨i0,s.size - (i0 + 1),[],[],rfl,rfl,Nat.le_refl _,by omega,by omega,Nat.zero_le _,World.ownsRow_nil _ _ _ _,RowR.nil,HR,Below.refl _ _⟩
 case round =>
  obtain ⟨b,m,acc,xs,rfl,rfl,hb1,hb2,hm,hacc,hown,hrow,hR,hb⟩:=hrel
  have hnm:=zdy acc
  have hpf : zaj (zac true s n) (enc true s n) s (b + 1) = none -> Hid (fin s R = none):=fun h => by
   show _ = _;rw [hR.out]
   cases m with
   | zero => rfl
   | succ m => rw [zby,h];rfl
  by_cases hlt : b + 1 < s.size
  ·have hbk : Hid (bAt s (b + 1) = s[b + 1].toNat):=za1 s (b + 1) hlt
   cases hl : isL (s[b + 1].toNat : Int) with
   | false =>
    have hr':=hpf (by unfold zaj;rw [if_neg (by rw [hbk.out,hl];simp)])
    clear hpf
    go_wp2_with (first | (go_at_call 114;refine (zam (zck _ _)).mono ?_;rintro e _ ⟨rfl,rfl⟩) | (go_at_call 93;refine (zam (zah _ _ _ _ (by omega) _hs)).mono ?_;rintro e _ ⟨rfl,rfl⟩))
    go_ret2
    rw [hr'.out]
    exact ⟨rfl,hb⟩
   | true =>
    by_cases h58 : bAt s (b + 1 + 1) = 58
    ·have h58' : atB s ((b : Int) + 1 + 1) 58 = true:=zbe rfl h58
     have hb3 : b + 1 + 1 < s.size:=zar (by omega)
     have hcond : isL (bAt s (b + 1)) = true /\ bAt s (b + 1 + 1) = 58:=⟨by rw [hbk.out];exact hl,h58⟩
     clear h58
     cases hx : zac true s n (b + 1 + 2) with
     | none =>
      have hr':=hpf (by unfold zaj;rw [if_pos hcond,hx])
      have hcall:=fun w => IE.no w (show s.size <= b + 1 + 2 + n by omega) (by omega) hx
      clear hpf hx hcond
      go_wp2_with (first | (go_at_call 114;refine (zam (zck _ _)).mono ?_;rintro e _ ⟨rfl,rfl⟩) | (go_at_call 93;refine (zam (zah _ _ _ _ (by omega) _hs)).mono ?_;rintro e _ ⟨rfl,rfl⟩) | (go_at_call 75;refine (hcall _).mono ?_;rintro e we ⟨rfl,hbe⟩;obtain ⟨hce,hfe⟩:=zal hbe;have hze : wr.heap.size < we.heap.size:=(by have:=hbe.size;simp at this;omega)))
      go_ret2
      rw [hr'.out]
      exact ⟨rfl,(Below.alloc' hb _).trans (hbe.mono (by have:=hb.size;simp;omega))⟩
     | some p =>
      obtain ⟨ty,k⟩:=p
      have hk:=za8 true s n _ _ _ hx
      have hcall:=fun w => IE.yes w (show s.size <= b + 1 + 2 + n by omega) (by omega) hx
      by_cases h61 : bAt s k = 61
      ·have h61' : atB s k 61 = true:=zbe rfl h61
       have hkl : k < s.size:=zar (by omega)
       cases hy : enc true s n ty (k + 1) with
       | none =>
        have hr':=hpf (by unfold zaj;rw [if_pos hcond,hx];simp only [if_pos h61];rw [hy])
        have hlay:=fun w => IL.no w hx (show s.size <= b + 1 + 2 + n by omega) (show k + 1 <= s.size by omega) hy
        clear hpf hx hcond hy h61
        go_wp2_with (first | (go_at_call 114;refine (zam (zck _ _)).mono ?_;rintro e _ ⟨rfl,rfl⟩) | (go_at_call 93;refine (zam (zah _ _ _ _ (by omega) _hs)).mono ?_;rintro e _ ⟨rfl,rfl⟩) | (go_at_call 75;refine (hcall _).mono ?_;rintro e we ⟨rfl,hbe⟩;obtain ⟨hce,hfe⟩:=zal hbe;have hze : wr.heap.size < we.heap.size:=(by have:=hbe.size;simp at this;omega)) | (go_at_call 115;refine (hlay _).mono ?_;rintro e wl ⟨d',hd',rfl,hbl⟩))
        go_ret2
        rw [hr'.out]
        exact ⟨rfl,((Below.alloc' hb _).trans (hbe.mono (by have:=hb.size;simp;omega))).trans (hbl.mono (by have:=hbe.size;simp at this;have:=hb.size;omega))⟩
       | some q =>
        obtain ⟨d,e⟩:=q
        have he:=zbo hy
        obtain ⟨he1,he2,_⟩:=he
        obtain ⟨f,hfdef⟩ : ∃ f : Nat × Ty × ByteArray,f = ((bAt s (b + 1)).toNat,ty,(s.extract (k + 1) e)):=⟨_,rfl⟩
        have hpf' : zaj (zac true s n) (enc true s n) s (b + 1) = some (f,e):=by unfold zaj;rw [if_pos hcond,hx];simp only [if_pos h61];rw [hy,hfdef]
        have hnames : zb2 acc ++ s.extract (b + 1) (b + 1 + 1) = zb2 (acc ++ [f]):=by rw [hfdef];exact zot s (b + 1) hlt acc ty _
        have hext:=size_extract s (b + 1) (b + 1 + 1) (by omega) (by omega)
        have hf1 : f.1 = s[b + 1].toNat:=by rw [hfdef];show (bAt s (b + 1)).toNat = _;rw [hbk.out];simp
        have hu:=s[b + 1].toNat_lt
        have hsnoc : RowR n s (xs ++ [.int .u8 s[b + 1].toNat,.int .i64 ((b : Int) + 1 + 2),.bool true,.string (s.extract (k + 1) e)]) (acc ++ [f]):=by
         have h:=hrow.snoc (f:=f) (p:=b + 1 + 2) (k:=k) (by rw [hfdef];exact hx) (by omega) (by omega)
         rw [hf1] at h
         have e2 : f.2.2 = (s.extract (k + 1) e):=by rw [hfdef]
         rw [e2] at h
         have e3 : decide (0 < (s.extract (k + 1) e).size) = true:=by rw [size_extract s (k + 1) e (by omega) (by omega)];simp;omega
         rw [e3] at h
         exact h
        obtain ⟨ii,hii,hz0,hzz1,hzz2⟩:=info_parts Tryz.infoRField
        have hl1 : (acc ++ [f]).length = acc.length + 1:=by simp
        have hlow : ∀ k,u6.ownBlock = some k -> w.heap.size <= k /\ k < wr.heap.size:=fun k h => hown.lt k h
        have hzw:=hb.size
        have hown3 : ∀ (we wl : World) (o o2 : Obj) (v2 v3 : Value),Below (wr.alloc o).heap.size (wr.alloc o) we -> Below we.heap.size we wl -> (((wl.setCell ⟨wr.heap.size,2,none⟩ v2).setCell ⟨wr.heap.size,3,none⟩ v3).alloc o2).ownsRow w.heap.size 176 4 u6 acc.length xs:=fun we wl o o2 v2 v3 hbe hbl =>
         (ownsRow_setCell_other (a:=⟨wr.heap.size,3,none⟩) (ownsRow_setCell_other (a:=⟨wr.heap.size,2,none⟩) (zbc (zbc (hown.alloc o) hbe) hbl) (fun h => by have:=(hlow _ h).2;simp at this) _) (fun h => by have:=(hlow _ h).2;simp at this) _).alloc o2
        have hbig : ∀ (we wl w3 : World) (o o2 : Obj) (v2 v3 : Value),Below (wr.alloc o).heap.size (wr.alloc o) we -> Below we.heap.size we wl -> (((wl.setCell ⟨wr.heap.size,2,none⟩ v2).setCell ⟨wr.heap.size,3,none⟩ v3).alloc o2).grownBy w3 u6.ownBlock -> Below w.heap.size w w3:=fun we wl w3 o o2 v2 v3 hbe hbl hgrow => by
         have z1:=hbe.size
         have z2:=hbl.size
         simp at z1
         have c1:=((Below.alloc' hb o).trans (hbe.mono (by simp;omega))).trans (hbl.mono (by omega))
         have c2:=(c1.setCell (p:=⟨wr.heap.size,2,none⟩) hzw v2).setCell (p:=⟨wr.heap.size,3,none⟩) hzw v3
         exact Below.grown (Below.alloc' c2 o2) hgrow (Nat.le_trans c2.size (by simp)) (fun k hk => (hlow k hk).1)
        have hw1 : IntKind.i64.wrap ((k : Int) + 1) = (k : Int) + 1:=by rw [IntKind.wrap_i64];omega
        have hlay:=fun w => IL.yes w hx (show s.size <= b + 1 + 2 + n by omega) (show k + 1 <= s.size by omega) hy
        have hmR : ∃ m',m = m' + 1:=⟨m - 1,by omega⟩
        obtain ⟨m',rfl⟩:=hmR
        by_cases h44 : bAt s e = 44
        ·have h44' : atB s e 44 = true:=zbe rfl h44
         have hkl2 : e < s.size:=zar (by omega)
         have hr' : Hid (R = zby (zaj (zac true s n) (enc true s n) s) s m' (e + 1) (acc ++ [f])):=by show _ = _;rw [hR.out,zby,hpf'];simp only [if_pos h44]
         clear hpf hx hcond hrow hpf' hfdef hy h44 h61
         go_wp2_with (first | (go_at_call 114;refine (zam (zck _ _)).mono ?_;rintro e _ ⟨rfl,rfl⟩) | (go_at_call 93;refine (zam (zah _ _ _ _ (by omega) _hs)).mono ?_;rintro e _ ⟨rfl,rfl⟩) | (go_at_call 75;refine (hcall _).mono ?_;rintro e we ⟨rfl,hbe⟩;obtain ⟨hce,hfe⟩:=zal hbe;have hze : wr.heap.size < we.heap.size:=(by have:=hbe.size;simp at this;omega)) | (go_at_call 115;refine (hlay _).mono ?_;rintro e wl ⟨rfl,hbl⟩;obtain ⟨hcl,hfl⟩:=zal hbl;have hzl : we.heap.size <= wl.heap.size:=hbl.size;have hzl2 : wr.heap.size < wl.heap.size:=(by omega)) | (at_builtin;refine wpList_append_lies _ rfl _ _ _ rfl w.heap.size 176 ii _ 4 40 Tryz.underlying159 hii hz0 hzz1 hzz2 rfl (by omega) u6 acc.length xs rfl (hown3 _ _ _ _ _ _ hbe hbl) ⟨wl.heap.size,0,none⟩ 1 1 [.int .u8 s[b + 1].toNat,.int .i64 ((b : Int) + 1 + 2),.bool true,.string (s.extract (k + 1) e)] rfl rfl (World.news_of_block (zhy (zc6 _ _ _ _))) (by simp [Value.oneCell']) (by omega) (by unfold maxLen;omega) (by omega) (by rw [za2,zc6];omega) (wl.heap.size + 1) (by rw [za2,zc6]) ?_;intro g' cap' w3 hown' hgrow hat hlt3;have hb3:=hbig _ _ _ _ _ _ _ hbe hbl hgrow))
         go_roundw
         case rel => exact ⟨e,m',acc ++ [f],_,rfl,rfl,by omega,by omega,by omega,by rw [hl1];omega,(by rw [hl1];exact hown'),hsnoc,hr',hb3⟩
         case measure => simp [intOf];omega
        ·have h44' : atB s e 44 = false:=zbb rfl h44
         have hr0 : R = some (acc ++ [f],e):=by rw [hR.out,zby,hpf'];simp only [if_neg h44]
         cases htw : tw (zb2 (acc ++ [f])) with
         | true =>
          have hr' : Hid (fin s R = none):=by show _ = _;rw [hr0];simp [fin,htw]
          clear hpf hx hcond hrow hpf' hfdef hy h44 h61 hr0
          go_wp2_with (first | (go_at_call 114;refine (zam (zck _ _)).mono ?_;rintro e _ ⟨rfl,rfl⟩) | (go_at_call 93;refine (zam (zah _ _ _ _ (by omega) _hs)).mono ?_;rintro e _ ⟨rfl,rfl⟩) | (go_at_call 75;refine (hcall _).mono ?_;rintro e we ⟨rfl,hbe⟩;obtain ⟨hce,hfe⟩:=zal hbe;have hze : wr.heap.size < we.heap.size:=(by have:=hbe.size;simp at this;omega)) | (go_at_call 115;refine (hlay _).mono ?_;rintro e wl ⟨rfl,hbl⟩;obtain ⟨hcl,hfl⟩:=zal hbl;have hzl : we.heap.size <= wl.heap.size:=hbl.size;have hzl2 : wr.heap.size < wl.heap.size:=(by omega)) | (at_builtin;refine wpList_append_lies _ rfl _ _ _ rfl w.heap.size 176 ii _ 4 40 Tryz.underlying159 hii hz0 hzz1 hzz2 rfl (by omega) u6 acc.length xs rfl (hown3 _ _ _ _ _ _ hbe hbl) ⟨wl.heap.size,0,none⟩ 1 1 [.int .u8 s[b + 1].toNat,.int .i64 ((b : Int) + 1 + 2),.bool true,.string (s.extract (k + 1) e)] rfl rfl (World.news_of_block (zhy (zc6 _ _ _ _))) (by simp [Value.oneCell']) (by omega) (by unfold maxLen;omega) (by omega) (by rw [za2,zc6];omega) (wl.heap.size + 1) (by rw [za2,zc6]) ?_;intro g' cap' w3 hown' hgrow hat hlt3;have hb3:=hbig _ _ _ _ _ _ _ hbe hbl hgrow) | (go_at_call 92;refine (zcf _ _ (by rw [zdy];omega)).mono ?_;rintro e wt ⟨rfl,hbt⟩))
          go_ret2
          rw [hr'.out]
          exact ⟨rfl,hb3.trans (hbt.mono hb3.size)⟩
         | false =>
          by_cases h125 : bAt s e = 125
          ·have h125' : atB s e 125 = true:=zbe rfl h125
           have hr' : Hid (fin s R = some (acc ++ [f],e + 1)):=by show _ = _;rw [hr0];simp [fin,htw,h125]
           clear hpf hx hcond hrow hpf' hfdef hy h44 h61 hr0 h125
           go_wp2_with (first | (go_at_call 114;refine (zam (zck _ _)).mono ?_;rintro e _ ⟨rfl,rfl⟩) | (go_at_call 93;refine (zam (zah _ _ _ _ (by omega) _hs)).mono ?_;rintro e _ ⟨rfl,rfl⟩) | (go_at_call 75;refine (hcall _).mono ?_;rintro e we ⟨rfl,hbe⟩;obtain ⟨hce,hfe⟩:=zal hbe;have hze : wr.heap.size < we.heap.size:=(by have:=hbe.size;simp at this;omega)) | (go_at_call 115;refine (hlay _).mono ?_;rintro e wl ⟨rfl,hbl⟩;obtain ⟨hcl,hfl⟩:=zal hbl;have hzl : we.heap.size <= wl.heap.size:=hbl.size;have hzl2 : wr.heap.size < wl.heap.size:=(by omega)) | (at_builtin;refine wpList_append_lies _ rfl _ _ _ rfl w.heap.size 176 ii _ 4 40 Tryz.underlying159 hii hz0 hzz1 hzz2 rfl (by omega) u6 acc.length xs rfl (hown3 _ _ _ _ _ _ hbe hbl) ⟨wl.heap.size,0,none⟩ 1 1 [.int .u8 s[b + 1].toNat,.int .i64 ((b : Int) + 1 + 2),.bool true,.string (s.extract (k + 1) e)] rfl rfl (World.news_of_block (zhy (zc6 _ _ _ _))) (by simp [Value.oneCell']) (by omega) (by unfold maxLen;omega) (by omega) (by rw [za2,zc6];omega) (wl.heap.size + 1) (by rw [za2,zc6]) ?_;intro g' cap' w3 hown' hgrow hat hlt3;have hb3:=hbig _ _ _ _ _ _ _ hbe hbl hgrow) | (go_at_call 92;refine (zcf _ _ (by rw [zdy];omega)).mono ?_;rintro e wt ⟨rfl,hbt⟩))
           rw [<- hl1] at hown'
           go_ret2
           rw [hr'.out]
           refine ⟨⟨g',cap',_,?_,zbc hown' hbt,hsnoc⟩,hb3.trans (hbt.mono hb3.size)⟩
           rw [hl1];rfl
          ·have h125' : atB s e 125 = false:=zbb rfl h125
           have hr' : Hid (fin s R = none):=by show _ = _;rw [hr0];simp [fin,h125]
           clear hpf hx hcond hrow hpf' hfdef hy h44 h61 hr0 h125
           go_wp2_with (first | (go_at_call 114;refine (zam (zck _ _)).mono ?_;rintro e _ ⟨rfl,rfl⟩) | (go_at_call 93;refine (zam (zah _ _ _ _ (by omega) _hs)).mono ?_;rintro e _ ⟨rfl,rfl⟩) | (go_at_call 75;refine (hcall _).mono ?_;rintro e we ⟨rfl,hbe⟩;obtain ⟨hce,hfe⟩:=zal hbe;have hze : wr.heap.size < we.heap.size:=(by have:=hbe.size;simp at this;omega)) | (go_at_call 115;refine (hlay _).mono ?_;rintro e wl ⟨rfl,hbl⟩;obtain ⟨hcl,hfl⟩:=zal hbl;have hzl : we.heap.size <= wl.heap.size:=hbl.size;have hzl2 : wr.heap.size < wl.heap.size:=(by omega)) | (at_builtin;refine wpList_append_lies _ rfl _ _ _ rfl w.heap.size 176 ii _ 4 40 Tryz.underlying159 hii hz0 hzz1 hzz2 rfl (by omega) u6 acc.length xs rfl (hown3 _ _ _ _ _ _ hbe hbl) ⟨wl.heap.size,0,none⟩ 1 1 [.int .u8 s[b + 1].toNat,.int .i64 ((b : Int) + 1 + 2),.bool true,.string (s.extract (k + 1) e)] rfl rfl (World.news_of_block (zhy (zc6 _ _ _ _))) (by simp [Value.oneCell']) (by omega) (by unfold maxLen;omega) (by omega) (by rw [za2,zc6];omega) (wl.heap.size + 1) (by rw [za2,zc6]) ?_;intro g' cap' w3 hown' hgrow hat hlt3;have hb3:=hbig _ _ _ _ _ _ _ hbe hbl hgrow) | (go_at_call 92;refine (zcf _ _ (by rw [zdy];omega)).mono ?_;rintro e wt ⟨rfl,hbt⟩))
           go_ret2
           rw [hr'.out]
           exact ⟨rfl,hb3.trans (hbt.mono hb3.size)⟩
      ·have h61' : atB s k 61 = false:=zbb rfl h61
       obtain ⟨f,hfdef⟩ : ∃ f : Nat × Ty × ByteArray,f = ((bAt s (b + 1)).toNat,ty,ByteArray.empty):=⟨_,rfl⟩
       have hpf' : zaj (zac true s n) (enc true s n) s (b + 1) = some (f,k):=by unfold zaj;rw [if_pos hcond,hx];simp only [if_neg h61];rw [hfdef]
       have hnames : zb2 acc ++ s.extract (b + 1) (b + 1 + 1) = zb2 (acc ++ [f]):=by rw [hfdef];exact zot s (b + 1) hlt acc ty _
       have hext:=size_extract s (b + 1) (b + 1 + 1) (by omega) (by omega)
       have hf1 : f.1 = s[b + 1].toNat:=by rw [hfdef];show (bAt s (b + 1)).toNat = _;rw [hbk.out];simp
       have hu:=s[b + 1].toNat_lt
       have hsnoc : RowR n s (xs ++ [.int .u8 s[b + 1].toNat,.int .i64 ((b : Int) + 1 + 2),.bool false,.string ByteArray.empty]) (acc ++ [f]):=by
        have h:=hrow.snoc (f:=f) (p:=b + 1 + 2) (k:=k) (by rw [hfdef];exact hx) (by omega) (by omega)
        rw [hf1] at h
        have e2 : f.2.2 = ByteArray.empty:=by rw [hfdef]
        rw [e2] at h
        have e3 : decide (0 < ByteArray.empty.size) = false:=rfl
        rw [e3] at h
        exact h
       obtain ⟨ii,hii,hz0,hzz1,hzz2⟩:=info_parts Tryz.infoRField
       have hl1 : (acc ++ [f]).length = acc.length + 1:=by simp
       have hlow : ∀ k,u6.ownBlock = some k -> w.heap.size <= k /\ k < wr.heap.size:=fun k h => hown.lt k h
       have hzw:=hb.size
       have hown3 : ∀ (we : World) (o o2 : Obj),Below (wr.alloc o).heap.size (wr.alloc o) we -> (we.alloc o2).ownsRow w.heap.size 176 4 u6 acc.length xs:=fun we o o2 hbe => (zbc (hown.alloc o) hbe).alloc o2
       have hbig : ∀ (we w3 : World) (o o2 : Obj),Below (wr.alloc o).heap.size (wr.alloc o) we -> (we.alloc o2).grownBy w3 u6.ownBlock -> Below w.heap.size w w3:=fun we w3 o o2 hbe hgrow => by
        have z1:=hbe.size
        simp at z1
        have c1:=(Below.alloc' hb o).trans (hbe.mono (by simp;omega))
        exact Below.grown (Below.alloc' c1 o2) hgrow (by simp;omega) (fun k hk => (hlow k hk).1)
       have hmR : ∃ m',m = m' + 1:=⟨m - 1,by omega⟩
       obtain ⟨m',rfl⟩:=hmR
       by_cases h44 : bAt s k = 44
       ·have h44' : atB s k 44 = true:=zbe rfl h44
        have hkl2 : k < s.size:=zar (by omega)
        have hr' : Hid (R = zby (zaj (zac true s n) (enc true s n) s) s m' (k + 1) (acc ++ [f])):=by show _ = _;rw [hR.out,zby,hpf'];simp only [if_pos h44]
        clear hpf hx hcond hrow hpf' hfdef h44 h61
        go_wp2_with (first | (go_at_call 114;refine (zam (zck _ _)).mono ?_;rintro e _ ⟨rfl,rfl⟩) | (go_at_call 93;refine (zam (zah _ _ _ _ (by omega) _hs)).mono ?_;rintro e _ ⟨rfl,rfl⟩) | (go_at_call 75;refine (hcall _).mono ?_;rintro e we ⟨rfl,hbe⟩;obtain ⟨hce,hfe⟩:=zal hbe;have hze : wr.heap.size < we.heap.size:=(by have:=hbe.size;simp at this;omega)) | (at_builtin;refine wpList_append_lies _ rfl _ _ _ rfl w.heap.size 176 ii _ 4 40 Tryz.underlying159 hii hz0 hzz1 hzz2 rfl (by omega) u6 acc.length xs rfl (hown3 _ _ _ hbe) ⟨we.heap.size,0,none⟩ 1 1 [.int .u8 s[b + 1].toNat,.int .i64 ((b : Int) + 1 + 2),.bool false,.string ByteArray.empty] rfl rfl (World.news_of_block (heap_alloc_new _ _)) (by simp [Value.oneCell']) (by omega) (by unfold maxLen;omega) (by omega) (by simp;omega) (we.heap.size + 1) (by simp) ?_;intro g' cap' w3 hown' hgrow hat hlt3;have hb3:=hbig _ _ _ _ hbe hgrow))
        go_roundw
        case rel => exact ⟨k,m',acc ++ [f],_,rfl,rfl,by omega,by omega,by omega,by rw [hl1];omega,(by rw [hl1];exact hown'),hsnoc,hr',hb3⟩
        case measure => simp [intOf];omega
       ·have h44' : atB s k 44 = false:=zbb rfl h44
        have hr0 : R = some (acc ++ [f],k):=by rw [hR.out,zby,hpf'];simp only [if_neg h44]
        cases htw : tw (zb2 (acc ++ [f])) with
        | true =>
         have hr' : Hid (fin s R = none):=by show _ = _;rw [hr0];simp [fin,htw]
         clear hpf hx hcond hrow hpf' hfdef h44 h61 hr0
         go_wp2_with (first | (go_at_call 114;refine (zam (zck _ _)).mono ?_;rintro e _ ⟨rfl,rfl⟩) | (go_at_call 93;refine (zam (zah _ _ _ _ (by omega) _hs)).mono ?_;rintro e _ ⟨rfl,rfl⟩) | (go_at_call 75;refine (hcall _).mono ?_;rintro e we ⟨rfl,hbe⟩;obtain ⟨hce,hfe⟩:=zal hbe;have hze : wr.heap.size < we.heap.size:=(by have:=hbe.size;simp at this;omega)) | (at_builtin;refine wpList_append_lies _ rfl _ _ _ rfl w.heap.size 176 ii _ 4 40 Tryz.underlying159 hii hz0 hzz1 hzz2 rfl (by omega) u6 acc.length xs rfl (hown3 _ _ _ hbe) ⟨we.heap.size,0,none⟩ 1 1 [.int .u8 s[b + 1].toNat,.int .i64 ((b : Int) + 1 + 2),.bool false,.string ByteArray.empty] rfl rfl (World.news_of_block (heap_alloc_new _ _)) (by simp [Value.oneCell']) (by omega) (by unfold maxLen;omega) (by omega) (by simp;omega) (we.heap.size + 1) (by simp) ?_;intro g' cap' w3 hown' hgrow hat hlt3;have hb3:=hbig _ _ _ _ hbe hgrow) | (go_at_call 92;refine (zcf _ _ (by rw [zdy];omega)).mono ?_;rintro e wt ⟨rfl,hbt⟩))
         go_ret2
         rw [hr'.out]
         exact ⟨rfl,hb3.trans (hbt.mono hb3.size)⟩
        | false =>
         by_cases h125 : bAt s k = 125
         ·have h125' : atB s k 125 = true:=zbe rfl h125
          have hr' : Hid (fin s R = some (acc ++ [f],k + 1)):=by show _ = _;rw [hr0];simp [fin,htw,h125]
          clear hpf hx hcond hrow hpf' hfdef h44 h61 hr0 h125
          go_wp2_with (first | (go_at_call 114;refine (zam (zck _ _)).mono ?_;rintro e _ ⟨rfl,rfl⟩) | (go_at_call 93;refine (zam (zah _ _ _ _ (by omega) _hs)).mono ?_;rintro e _ ⟨rfl,rfl⟩) | (go_at_call 75;refine (hcall _).mono ?_;rintro e we ⟨rfl,hbe⟩;obtain ⟨hce,hfe⟩:=zal hbe;have hze : wr.heap.size < we.heap.size:=(by have:=hbe.size;simp at this;omega)) | (at_builtin;refine wpList_append_lies _ rfl _ _ _ rfl w.heap.size 176 ii _ 4 40 Tryz.underlying159 hii hz0 hzz1 hzz2 rfl (by omega) u6 acc.length xs rfl (hown3 _ _ _ hbe) ⟨we.heap.size,0,none⟩ 1 1 [.int .u8 s[b + 1].toNat,.int .i64 ((b : Int) + 1 + 2),.bool false,.string ByteArray.empty] rfl rfl (World.news_of_block (heap_alloc_new _ _)) (by simp [Value.oneCell']) (by omega) (by unfold maxLen;omega) (by omega) (by simp;omega) (we.heap.size + 1) (by simp) ?_;intro g' cap' w3 hown' hgrow hat hlt3;have hb3:=hbig _ _ _ _ hbe hgrow) | (go_at_call 92;refine (zcf _ _ (by rw [zdy];omega)).mono ?_;rintro e wt ⟨rfl,hbt⟩))
          rw [<- hl1] at hown'
          go_ret2
          rw [hr'.out]
          refine ⟨⟨g',cap',_,?_,zbc hown' hbt,hsnoc⟩,hb3.trans (hbt.mono hb3.size)⟩
          rw [hl1];rfl
         ·have h125' : atB s k 125 = false:=zbb rfl h125
          have hr' : Hid (fin s R = none):=by show _ = _;rw [hr0];simp [fin,h125]
          clear hpf hx hcond hrow hpf' hfdef h44 h61 hr0 h125
          go_wp2_with (first | (go_at_call 114;refine (zam (zck _ _)).mono ?_;rintro e _ ⟨rfl,rfl⟩) | (go_at_call 93;refine (zam (zah _ _ _ _ (by omega) _hs)).mono ?_;rintro e _ ⟨rfl,rfl⟩) | (go_at_call 75;refine (hcall _).mono ?_;rintro e we ⟨rfl,hbe⟩;obtain ⟨hce,hfe⟩:=zal hbe;have hze : wr.heap.size < we.heap.size:=(by have:=hbe.size;simp at this;omega)) | (at_builtin;refine wpList_append_lies _ rfl _ _ _ rfl w.heap.size 176 ii _ 4 40 Tryz.underlying159 hii hz0 hzz1 hzz2 rfl (by omega) u6 acc.length xs rfl (hown3 _ _ _ hbe) ⟨we.heap.size,0,none⟩ 1 1 [.int .u8 s[b + 1].toNat,.int .i64 ((b : Int) + 1 + 2),.bool false,.string ByteArray.empty] rfl rfl (World.news_of_block (heap_alloc_new _ _)) (by simp [Value.oneCell']) (by omega) (by unfold maxLen;omega) (by omega) (by simp;omega) (we.heap.size + 1) (by simp) ?_;intro g' cap' w3 hown' hgrow hat hlt3;have hb3:=hbig _ _ _ _ hbe hgrow) | (go_at_call 92;refine (zcf _ _ (by rw [zdy];omega)).mono ?_;rintro e wt ⟨rfl,hbt⟩))
          go_ret2
          rw [hr'.out]
          exact ⟨rfl,hb3.trans (hbt.mono hb3.size)⟩
    ·have h58' : atB s ((b : Int) + 1 + 1) 58 = false:=zbb rfl h58
     have hr':=hpf (by unfold zaj;rw [if_neg (fun h => h58 h.2)])
     clear hpf
     go_wp2_with (first | (go_at_call 114;refine (zam (zck _ _)).mono ?_;rintro e _ ⟨rfl,rfl⟩) | (go_at_call 93;refine (zam (zah _ _ _ _ (by omega) _hs)).mono ?_;rintro e _ ⟨rfl,rfl⟩))
     go_ret2
     rw [hr'.out]
     exact ⟨rfl,hb⟩
  ·have hr':=hpf (by unfold zaj;rw [if_neg (by rw [zci s (b + 1) (by omega)];simp [isL])])
   clear hpf
   go_wp2_with (first | (go_at_call 114;refine (zam (zck _ _)).mono ?_;rintro e _ ⟨rfl,rfl⟩) | (go_at_call 93;refine (zam (zah _ _ _ _ (by omega) _hs)).mono ?_;rintro e _ ⟨rfl,rfl⟩))
   go_ret2
   rw [hr'.out]
   exact ⟨rfl,hb⟩
end
end Go.Proofs.YtkkekopomiehlaaGreat
