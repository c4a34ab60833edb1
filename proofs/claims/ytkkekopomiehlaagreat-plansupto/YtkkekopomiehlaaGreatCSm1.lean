import Derived.Test.YtkkekopomiehlaaGreatCRef7
set_option linter.unusedVariables false
set_option linter.unusedSimpArgs false
set_option maxHeartbeats 40000000
set_option maxRecDepth 4000
namespace Go.Proofs.YtkkekopomiehlaaGreat
section
open Go.RowKit
def zjf (n : Nat) (s : ByteArray) : Prop:=∀ (i : Nat) (w : World) (ty : Ty) (k : Nat),zac true s n i = some (ty,k) -> s.size <= i + n -> wt n ty <= 20000 ->
 Calls Tryz.prog 116 #[.string s,.int .i64 i] w fun e w' => e = .returned (.string (datV n (lv n ty))) /\ Below w.heap.size w w'
theorem zkg : ∀ (n : Nat) (ty : Ty),(datV n (lv n ty)).size <= wt n ty
 | 0,ty => Nat.zero_le _
 | n + 1,ty => by
  have h70:=zem n ty
  rw [lv]
  split
  ·rw [zgf];have : (zao 0).size = 1:=(by decide);omega
  ·split
   ·rw [zgh];have : (oneB ByteArray.empty.size ++ ByteArray.empty : ByteArray).size = 1:=(by decide);omega
   ·split
    ·rw [zes,zai];omega
    ·split
     ·rw [zdc];have : (oneB ([] : List Val).length ++ catB (([] : List Val).map (datV n))).size = 1:=(by simp [catB,zai]);omega
     ·split
      ·rw [zet,zai];omega
      ·rw [zdd,List.map_map]
       have : ∀ l : List (Nat × Ty × ByteArray),(catB (l.map (datV n ∘ fun f => lv n f.2.1))).size <= (l.map fun f => wt n f.2.1 + f.2.2.size + 4).sum:=fun l => by
        induction l with
        | nil => simp [catB]
        | cons a l ih =>
         have:=zkg n a.2.1
         simp only [List.map_cons,catB,ByteArray.size_append,List.sum_cons,Function.comp]
         omega
       have:=this ty.fields
       rw [wt];omega
theorem zoo {n : Nat} {ty : Ty} (h : ty.kind ≠ 123) (hk : ty.kind = 105 \/ ty.kind = 108 \/ ty.kind = 115 \/ ty.kind = 60 \/ ty.kind = 91 \/ ty.kind = 63 \/ ty.kind = 123) : datV (n + 1) (lv (n + 1) ty) = oneB 0:=by
 rw [lv]
 split
 ·rw [zgf];decide
 ·split
  ·rw [zgh];decide
  ·split
   ·rw [zes]
   ·split
    ·rw [zdc];simp [catB]
    ·split
     ·rw [zet]
     ·omega
theorem zzl (s : ByteArray) (i : Nat) (w : World) (hs : s.size <= 9000000) (h : bAt s i ≠ 123) :
  Calls Tryz.prog 116 #[.string s,.int .i64 i] w fun e w' => e = .returned (.string (oneB 0)) /\ Below w.heap.size w w':=by
 have hat : ∀ w,Calls Tryz.prog 93 #[.string s,.int .i64 i,.int .u8 123] w fun e w' => e = .returned (.bool false) /\ w = w':=fun w => by
  have:=zam (zah s i 123 w (by omega) hs)
  rw [zbb (i:=i) rfl h] at this;exact this
 have hone:=fun w => zcv 0 w (by omega)
 clear h
 go_enter Tryz.func116,Tryz.ntmps116
 go_wp2_with (first | (go_at_call 93;refine (hat _).mono ?_;rintro e _ ⟨rfl,rfl⟩) | (go_at_call 95;refine (hone _).mono ?_;rintro e w1 ⟨rfl,hb1⟩))
 go_ret
 exact ⟨rfl,hb1⟩
theorem zzm {n : Nat} {s : ByteArray} (IH : zjf n s) (hs : s.size <= 4096) (i : Nat) {fs : List (Nat × Ty × ByteArray)} {k0 : Nat} (hfl : fs.length <= 4096) (h : bAt s i = 123)
  (hF0 : ∀ w,Calls Tryz.prog 94 #[.string s,.int .i64 i] w fun e w' => GRet w.heap.size n s (some (fs,k0)) e w' /\ Below w.heap.size w w') (hwt : (fs.map fun f => wt n f.2.1 + f.2.2.size + 4).sum <= 20000) (w : World) :
  Calls Tryz.prog 116 #[.string s,.int .i64 i] w fun e w' => e = .returned (.string (catB (fs.map fun f => datV n (lv n f.2.1)))) /\ Below w.heap.size w w':=by
 have _hs : s.size <= 9000000:=by omega
 have hat : ∀ w,Calls Tryz.prog 93 #[.string s,.int .i64 i,.int .u8 123] w fun e w' => e = .returned (.bool true) /\ w = w':=fun w => by
  have:=zam (zah s i 123 w (by omega) _hs)
  rw [zbe (i:=i) rfl h] at this;exact this
 have hF : ∀ w,Calls Tryz.prog 94 #[.string s,.int .i64 i] w fun e w' => ∃ g cap xs,e = .returned (.tuple #[.slice (some ⟨g,0,none⟩) fs.length cap,.int .i64 k0]) /\ w'.ownsRow w.heap.size 176 4 (.slice (some ⟨g,0,none⟩) fs.length cap) fs.length xs /\ RowR n s xs fs /\ Below w.heap.size w w':=fun w => by
  refine (hF0 w).mono ?_
  rintro e w' ⟨⟨g,cap,xs,h1,h2,h3⟩,h4⟩
  exact ⟨g,cap,xs,h1,h2,h3,h4⟩
 obtain ⟨R,hR⟩ : ∃ R,R = catB (fs.map fun f => datV n (lv n f.2.1)):=⟨_,rfl⟩
 rw [<- hR]
 have HR : Hid (R = ByteArray.empty ++ catB ((fs.drop 0).map fun f => datV n (lv n f.2.1))):=by show _ = _;rw [ByteArray.empty_append];exact hR
 clear hF0 hR h
 go_enter Tryz.func116,Tryz.ntmps116
 go_wp2_with (first | (go_at_call 93;refine (hat _).mono ?_;rintro e _ ⟨rfl,rfl⟩) | (go_at_call 94;refine (hF _).mono ?_;rintro e wf ⟨g,cap,xs,rfl,hown,hrow,hbf0⟩))
 go_loopw [7,8] (fun vd vi wr => ∃ (x : Nat) (d : ByteArray),x <= fs.length /\ vi = .int .i64 x /\ vd = .string d /\ Hid (R = d ++ catB ((fs.drop x).map fun f => datV n (lv n f.2.1))) /\ Hid (d.size + ((fs.drop x).map fun f => wt n f.2.1 + f.2.2.size + 4).sum <= 20000) /\ Below wf.heap.size wf wr) (fun _ x _ => fs.length - (intOf x).toNat)
 case atStart => exact ⟨0,ByteArray.empty,Nat.zero_le _,rfl,rfl,HR,(by show _ <= _;rw [List.drop_zero,show ByteArray.empty.size = 0 from rfl];omega),Below.refl _ _⟩
 case round =>
  obtain ⟨x,d,hx0,rfl,rfl,hR,hsz,hb⟩:=hrel
  have hds : d.size <= 20000:=by have:=hsz.out;omega
  by_cases hlt : x < fs.length
  ·obtain ⟨f,hf⟩ : ∃ f,fs[x]? = some f:=⟨fs[x],List.getElem?_eq_getElem hlt⟩
   have hdrop : fs.drop x = f :: fs.drop (x + 1):=by
    rw [List.drop_eq_getElem_cons hlt];rw [List.getElem?_eq_getElem hlt] at hf;simp at hf;rw [hf]
   obtain ⟨p,kp,hp,hpn,h256,c0,c1,c2,c3⟩:=hrow.2 x f hf
   have k0:=zaa hb (zaq hown c0)
   have k1:=zaa hb (zaq hown c1)
   have hg' : g < wr.heap.size:=zaf k0
   have hsz2 : d.size + (wt n f.2.1 + f.2.2.size + 4) + ((fs.drop (x + 1)).map fun f => wt n f.2.1 + f.2.2.size + 4).sum <= 20000:=by
    have:=hsz.out;rw [hdrop,List.map_cons,List.sum_cons] at this;omega
   have hcall:=fun w => IH p w f.2.1 kp hp hpn (by omega)
   have hls:=zkg n f.2.1
   obtain ⟨Y,hY⟩ : ∃ Y,Y = datV n (lv n f.2.1):=⟨_,rfl⟩
   rw [<- hY] at hcall hls
   have hr' : Hid (R = (d ++ Y) ++ catB ((fs.drop (x + 1)).map fun f => datV n (lv n f.2.1))):=by show _ = _;rw [hR.out,hdrop,List.map_cons,catB,ByteArray.append_assoc,hY]
   have HS : Hid ((d ++ Y).size + ((fs.drop (x + 1)).map fun f => wt n f.2.1 + f.2.2.size + 4).sum <= 20000):=by show _ <= _;rw [ByteArray.size_append];omega
   have hYs : Y.size <= 20000:=by omega
   clear hf c0 c1 c2 c3 hdrop hR hsz hsz2 hls hY hp
   go_wp2_with (first | (go_at_call 116;refine (hcall _).mono ?_;rintro e w1 ⟨rfl,hb1⟩))
   go_roundw
   case rel => exact ⟨x + 1,d ++ Y,by omega,by go_num,rfl,hr',HS,hb.trans (hb1.mono hb.size)⟩
   case measure => simp [intOf];omega
  ·have hnil : fs.drop x = []:=List.drop_of_length_le (by omega)
   have hr' : Hid (R = d):=by show _ = _;rw [hR.out,hnil];simp [catB]
   clear hR hnil hsz
   go_wp2_with fail
   go_ret
   exact ⟨zcy hr'.out.symm,hbf0.trans (hb.mono hbf0.size)⟩
end
section
open Go.RowKit
theorem thn2 {w W w1 : World} (h : Below w.heap.size w W) (k : Below W.heap.size W w1) : Below w.heap.size w w1:=h.trans (k.mono h.size)
theorem zvc (w : World) (af : Option Addr) (lf cf : Nat) (R : ByteArray) (h : Calls Tryz.prog 113 #[.slice af lf cf,.int .i64 (-1),.string ⟨#[]⟩] w fun e w' => e = .returned (.string R) /\ Below w.heap.size w w') :
  Calls Tryz.prog 109 #[.slice af lf cf] w fun e w' => e = .returned (.string R) /\ Below w.heap.size w w':=by
 go_enter Tryz.func109,Tryz.ntmps109
 go_wp2_with (first | (go_at_call 113;refine h.mono ?_;rintro e w1 ⟨rfl,hb1⟩))
 go_ret
 exact ⟨rfl,hb1⟩
theorem zom {n : Nat} (IH : zf3 n) (fs : List (Nat × Ty × ByteArray)) (w : World) (af : Option Addr) (lf cf : Nat) (hlf : lf = fs.length) (hfl : fs.length <= 9000000) (hk : ∀ f ∈ fs,f.1 < 256 /\ tyK n f.2.1) (hwt : (fs.map fun f => wt n f.2.1 + f.2.2.size + 4).sum <= 20000) (hr : RepF n w af fs) :
  Calls Tryz.prog 109 #[.slice af lf cf] w fun e w' => e = .returned (.string (rwT (fun t => txtV n t (lv n t)) ⟨#[]⟩ (-1) fs 0 ⟨#[123]⟩ ByteArray.empty)) /\ Below w.heap.size w w' :=
 zvc w af lf cf _ (zqf IH fs (-1) ⟨#[]⟩ w af lf cf hlf hfl (Nat.zero_le _) hk hwt hr)
theorem zgp (ty : Ty) (w : World) (ai af : Option Addr) (li ci lf cf : Nat) (k : Nat) (x : ByteArray) (hk : ty.kind = k) (h : (k = 105 /\ x = ⟨#[48]⟩) \/ (k = 108 /\ x = ⟨#[48]⟩) \/ (k = 115 /\ x = ⟨#[34,34]⟩) \/ (k = 91 /\ x = ⟨#[91,93]⟩) \/ (k = 63 /\ x = ⟨#[95]⟩)) :
  Calls Tryz.prog 86 #[.agg #[.int .i64 ty.kind,.string ty.letters,.bool ty.op,.slice ai li ci,.slice af lf cf]] w fun e w' => e = .returned (.string x) /\ Below w.heap.size w w':=by
 have hB : ∀ o,Below w.heap.size w (w.alloc o):=fun o => (Below.refl _ _).alloc (Nat.le_refl _) _
 rw [hk]
 rcases h with ⟨rfl,rfl⟩ | ⟨rfl,rfl⟩ | ⟨rfl,rfl⟩ | ⟨rfl,rfl⟩ | ⟨rfl,rfl⟩ <;> (
  clear hk
  go_enter Tryz.func86,Tryz.ntmps86
  go_wp2_with fail
  go_ret
  exact ⟨rfl,by first | exact hB _ | exact Below.refl _ _⟩)
theorem zvd (ty : Ty) (w : World) (ai af : Option Addr) (li ci lf cf : Nat) (hk : ty.kind = 60) (hl : ty.letters.size <= 8) :
  Calls Tryz.prog 86 #[.agg #[.int .i64 ty.kind,.string ty.letters,.bool ty.op,.slice ai li ci,.slice af lf cf]] w fun e w' => e = .returned (.string (ty.letters.extract 0 1)) /\ Below w.heap.size w w':=by
 have hB : ∀ o,Below w.heap.size w (w.alloc o):=fun o => (Below.refl _ _).alloc (Nat.le_refl _) _
 have hfl:=fun W => zum ty ai li ci af lf cf W hl
 rw [hk] at hfl ⊢
 clear hk
 go_enter Tryz.func86,Tryz.ntmps86
 go_wp2_with (first | (go_at_call 108;refine (hfl _).mono ?_;rintro e w1 ⟨rfl,hb1⟩))
 go_ret
 exact ⟨rfl,by first | exact thn2 (hB _) hb1 | exact hb1⟩
theorem zve (ty : Ty) (w : World) (ai af : Option Addr) (li ci lf cf : Nat) (hk : ty.kind = 123) (x : ByteArray) (h : ∀ W,Below w.heap.size w W -> Calls Tryz.prog 109 #[.slice af lf cf] W fun e w' => e = .returned (.string x) /\ Below W.heap.size W w') :
  Calls Tryz.prog 86 #[.agg #[.int .i64 ty.kind,.string ty.letters,.bool ty.op,.slice ai li ci,.slice af lf cf]] w fun e w' => e = .returned (.string x) /\ Below w.heap.size w w':=by
 have hB : ∀ o,Below w.heap.size w (w.alloc o):=fun o => (Below.refl _ _).alloc (Nat.le_refl _) _
 rw [hk]
 clear hk
 go_enter Tryz.func86,Tryz.ntmps86
 go_wp2_with (first | (go_at_call 109;refine (h _ (by first | exact hB _ | exact Below.refl _ _)).mono ?_;rintro e w1 ⟨rfl,hb1⟩))
 go_ret
 exact ⟨rfl,by first | exact thn2 (hB _) hb1 | exact hb1⟩
theorem zvf {n : Nat} (IH : zf3 n) : zf3 (n + 1):=by
 intro ty w ai af li ci lf cf hk hwt hr
 obtain ⟨hkk,hl1,_,hkf⟩:=hk
 have hl8 : ty.letters.size <= 8:=hr.1
 rcases hkk with h | h | h | h | h | h | h
 ·rw [show lv (n + 1) ty = .num 0 by rw [lv,if_pos (.inl h)]]
  exact zgp ty w ai af li ci lf cf _ _ h (.inl ⟨rfl,rfl⟩)
 ·rw [show lv (n + 1) ty = .num 0 by rw [lv,if_pos (.inr h)]]
  exact zgp ty w ai af li ci lf cf _ _ h (.inr (.inl ⟨rfl,rfl⟩))
 ·rw [show lv (n + 1) ty = .str ByteArray.empty by rw [lv,if_neg (by omega),if_pos h]]
  exact zgp ty w ai af li ci lf cf _ _ h (.inr (.inr (.inl ⟨rfl,by show (quo ++ ByteArray.empty ++ quo : ByteArray) = _;decide⟩)))
 ·rw [show lv (n + 1) ty = .cho 0 by rw [lv,if_neg (by omega),if_neg (by omega),if_pos h],zfy,<- zgj ty.letters 0 (hl1 h)]
  exact zvd ty w ai af li ci lf cf h hl8
 ·rw [show lv (n + 1) ty = .lst [] by rw [lv,if_neg (by omega),if_neg (by omega),if_neg (by omega),if_pos h]]
  exact zgp ty w ai af li ci lf cf _ _ h (.inr (.inr (.inr (.inl ⟨rfl,by show (⟨#[91]⟩ ++ ⟨#[93]⟩ : ByteArray) = _;decide⟩))))
 ·rw [show lv (n + 1) ty = .non by rw [lv,if_neg (by omega),if_neg (by omega),if_neg (by omega),if_neg (by omega),if_pos h]]
  exact zgp ty w ai af li ci lf cf _ _ h (.inr (.inr (.inr (.inr ⟨rfl,rfl⟩))))
 ·rw [show lv (n + 1) ty = .rcd (ty.fields.map fun f => lv n f.2.1) by rw [lv,if_neg (by omega),if_neg (by omega),if_neg (by omega),if_neg (by omega),if_neg (by omega)],zel,<- zfs (fun t => txtV n t (lv n t)) (txtV n) ⟨#[]⟩ (-1) ty.fields _ 0 _ _ (by simp) (fun i g v hg hv => by
        rw [List.getElem?_map,hg] at hv;simp at hv;rw [if_neg (by omega),<- hv])]
  refine zve ty w ai af li ci lf cf h _ (fun W hb => ?_)
  have hfl:=(hr.keep hb).flds
  exact zom IH ty.fields W af lf cf hfl.1 hfl.2.1 hkf (by rw [wt] at hwt;omega) hfl.2.2
theorem zgo : ∀ n,zf3 n
 | 0 => fun ty w ai af li ci lf cf _ _ hr => hr.elim
 | n + 1 => zvf (zgo n)
def unL (wl rl : ByteArray) (op : Bool) : Nat -> Nat -> Option Nat
 | 0,_ => none
 | m + 1,k => if (op || decide (0 <= pOf rl (bAt wl k))) = true then unL wl rl op m (k + 1) else some k
def zrw (wl : ByteArray) : Option Nat -> Value
 | some k => .tuple #[.string (oneB (bAt wl k).toNat),.bool true]
 | none => .tuple #[.string ByteArray.empty,.bool false]
theorem yaa4 (x r : Ty) (ai : Option Addr) (li ci : Nat) (af : Option Addr) (lf cf : Nat) (bi : Option Addr) (mi di : Nat) (bf : Option Addr) (mf df : Nat) (w : World) (hx8 : x.letters.size <= 8) (hr8 : r.letters.size <= 8) :
  Calls Tryz.prog 87 #[.agg #[.int .i64 x.kind,.string x.letters,.bool x.op,.slice ai li ci,.slice af lf cf],.agg #[.int .i64 r.kind,.string r.letters,.bool r.op,.slice bi mi di,.slice bf mf df]] w fun e w' => e = .returned (zrw x.letters (unL x.letters r.letters r.op x.letters.size 0)) /\ Below w.heap.size w w':=by
 have _hx : x.letters.size <= 9000000:=by omega
 obtain ⟨R,hR⟩ : ∃ R,R = unL x.letters r.letters r.op x.letters.size 0:=⟨_,rfl⟩
 rw [<- hR]
 have HR : Hid (R = unL x.letters r.letters r.op (x.letters.size - 0) 0):=hR
 clear hR
 go_enter Tryz.func87,Tryz.ntmps87
 go_wp2_with fail
 go_loopw [6] (fun vk wr => ∃ (k : Nat),k <= x.letters.size /\ vk = .int .i64 k /\ Hid (R = unL x.letters r.letters r.op (x.letters.size - k) k) /\ Below (w.heap.size + 2) ((w.alloc (.cells #[.int .i64 x.kind,.string x.letters,.bool x.op,.slice ai li ci,.slice af lf cf] 135)).alloc (.cells #[.int .i64 r.kind,.string r.letters,.bool r.op,.slice bi mi di,.slice bf mf df] 135)) wr) (fun k _ => 9 - (intOf k).toNat)
 case atStart => exact ⟨0,Nat.zero_le _,rfl,HR,Below.refl _ _⟩
 case round =>
  obtain ⟨k,hk,rfl,hR,hb⟩:=hrel
  have hbB : Below ((w.alloc (.cells #[.int .i64 x.kind,.string x.letters,.bool x.op,.slice ai li ci,.slice af lf cf] 135)).alloc (.cells #[.int .i64 r.kind,.string r.letters,.bool r.op,.slice bi mi di,.slice bf mf df] 135)).heap.size ((w.alloc (.cells #[.int .i64 x.kind,.string x.letters,.bool x.op,.slice ai li ci,.slice af lf cf] 135)).alloc (.cells #[.int .i64 r.kind,.string r.letters,.bool r.op,.slice bi mi di,.slice bf mf df] 135)) wr:=hb.mono (by simp)
  obtain ⟨hc,hf⟩:=zal hbB
  have hsw : w.heap.size + 2 <= wr.heap.size:=by have:=hb.size;simpa using this
  have hbw : Below w.heap.size w wr:=(((Below.refl _ _).alloc (Nat.le_refl _) _).alloc (by simp) _).trans (hb.mono (by omega))
  by_cases hlt : k < x.letters.size
  ·have hlt' : (k : Int) < (x.letters.size : Int):=by omega
   have hlo : 0 <= bAt x.letters k:=by rw [za1 _ _ hlt];omega
   have hhi:=zep x.letters k
   have hR2 : R = if (r.op || decide (0 <= pOf r.letters (bAt x.letters k))) = true then unL x.letters r.letters r.op (x.letters.size - (k + 1)) (k + 1) else some k:=by
    rw [hR.out,show x.letters.size - k = (x.letters.size - (k + 1)) + 1 by omega];rfl
   have hby:=fun W => zbm x.letters k W _hx
   have htk:=fun W => zz5 r bi mi di bf mf df (bAt x.letters k) W hr8
   obtain ⟨c,hc0⟩ : ∃ c,c = bAt x.letters k:=⟨_,rfl⟩
   rw [<- hc0] at hlo hhi hR2 hby htk
   cases hT : (r.op || decide (0 <= pOf r.letters c)) with
   | true =>
    rw [hT] at htk
    have hr' : Hid (R = unL x.letters r.letters r.op (x.letters.size - (k + 1)) (k + 1)):=by show _ = _;rw [hR2,if_pos hT]
    clear hR2 hT hc0
    go_wp2_with (first | (go_at_call 101;refine (hby _).mono ?_;rintro e _ ⟨rfl,rfl⟩) | (go_at_call 110;refine (htk _).mono ?_;rintro e w1 ⟨rfl,hb1⟩))
    go_roundw
    case rel => exact ⟨k + 1,by omega,by go_num,hr',hb.trans (hb1.mono hsw)⟩
    case measure => simp [intOf];omega
   | false =>
    rw [hT] at htk
    have hr' : Hid (R = some k):=by show _ = _;rw [hR2,if_neg (by rw [hT];simp)]
    have HC : Hid (bAt x.letters k = c):=hc0.symm
    clear hR2 hT hc0
    go_wp2_with (first | (go_at_call 101;refine (hby _).mono ?_;rintro e _ ⟨rfl,rfl⟩) | (go_at_call 110;refine (htk _).mono ?_;rintro e w1 ⟨rfl,hb1⟩) | (go_at_call 111;refine (zic c _ hlo (by omega)).mono ?_;rintro e w2 ⟨rfl,hb2⟩))
    go_ret2
    rw [hr'.out]
    simp only [zrw,HC.out]
    exact ⟨rfl,thn2 (thn2 hbw hb1) hb2⟩
  ·have hr' : Hid (R = none):=by show _ = _;rw [hR.out,show x.letters.size - k = 0 by omega];rfl
   go_wp2_with fail
   go_ret2
   rw [hr'.out]
   exact ⟨rfl,hbw⟩
def unF (f : Ty -> Ty -> Option Val) (n : Nat) (wf : List (Nat × Ty × ByteArray)) : List (Nat × Ty × ByteArray) -> Option Val
 | [] => none
 | g :: gs =>
  match wf.findIdx? (fun h => h.1 == g.1) with
  | none => if g.2.2.size = 0 then some (.rcd (wf.map fun f => lv n f.2.1)) else unF f n wf gs
  | some p =>
   match f ((wf.map fun h => h.2.1).getD p (zbl 0)) g.2.1 with
   | none => unF f n wf gs
   | some u => some (.rcd ((wf.map fun f => lv n f.2.1).set p u))
def zch (f g : Ty -> Ty -> Option Val) (n : Nat) (w r : Ty) : Option Val :=
 if w.kind = 63 /\ r.kind = 63 then (f w.in r.in).map Val.som
 else if r.kind = 63 then g w r.in
 else if zba w.kind r.kind = true then none
 else if w.kind ≠ r.kind then some (lv (n + 1) w)
 else if w.kind = 60 then (unL w.letters r.letters r.op w.letters.size 0).map Val.cho
 else if w.kind = 91 then (f w.in r.in).map fun u => .lst [u]
 else if w.kind = 123 then unF f n w.fields r.fields
 else none
def unV : Nat -> Nat -> Ty -> Ty -> Option Val
 | 0,_,_,_ => none
 | _ + 1,0,_,_ => none
 | m + 1,n + 1,w,r => zch (unV m n) (unV m (n + 1)) n w r
def uR : Option ByteArray -> Value
 | some t => .tuple #[.string t,.bool true]
 | none => .tuple #[.string ByteArray.empty,.bool false]
end
end Go.Proofs.YtkkekopomiehlaaGreat
