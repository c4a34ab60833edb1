import Derived.Test.YtkkekopomiehlabHSp6
set_option linter.unusedVariables false
set_option linter.unusedSimpArgs false
set_option maxHeartbeats 40000000
set_option maxRecDepth 4000
namespace Go.Proofs.Ytkkekopomiehlab
section
open Go.RowKit
def tyK : Nat -> Ty -> Prop
 | 0,_ => True
 | n + 1,ty => (ty.kind = 105 \/ ty.kind = 108 \/ ty.kind = 115 \/ ty.kind = 60 \/ ty.kind = 91 \/ ty.kind = 63 \/ ty.kind = 123) /\ (ty.kind = 60 -> 1 <= ty.letters.size) /\ (ty.kind = 91 \/ ty.kind = 63 -> ty.inner ≠ [] /\ tyK n ty.in) /\ ∀ f ∈ ty.fields,f.1 < 256 /\ tyK n f.2.1
def lv : Nat -> Ty -> Val
 | 0,_ => .non
 | n + 1,ty => if ty.kind = 105 \/ ty.kind = 108 then .num 0 else if ty.kind = 115 then .str ByteArray.empty else if ty.kind = 60 then .cho 0 else if ty.kind = 91 then .lst [] else if ty.kind = 63 then .non else .rcd (ty.fields.map fun f => lv n f.2.1)
def rwT (f : Ty -> ByteArray) (x : ByteArray) (p : Int) : List (Nat × Ty × ByteArray) -> Nat -> ByteArray -> ByteArray -> ByteArray
 | [],_,_,t => t ++ ⟨#[125]⟩
 | g :: gs,k,mk,t => rwT f x p gs (k + 1) ⟨#[44]⟩ (t ++ (((mk ++ oneB g.1) ++ ⟨#[58]⟩) ++ (if (k : Int) = p then x else f g.2.1)))
theorem zc0 (f : Ty -> ByteArray) (tv : Ty -> Val -> ByteArray) (x : ByteArray) (p : Int) : ∀ (fs : List (Nat × Ty × ByteArray)) (vs : List Val) (k : Nat) (mk t : ByteArray),vs.length = fs.length ->
  (∀ i g v,fs[i]? = some g -> vs[i]? = some v -> (if ((k + i : Nat) : Int) = p then x else f g.2.1) = tv g.2.1 v) -> rwT f x p fs k mk t = zdk ((fs.zip vs).map fun q => (q.1.1,tv q.1.2.1 q.2)) mk t
 | [],vs,k,mk,t,hl,h => by cases vs <;> rfl
 | g :: fs,[],k,mk,t,hl,h => by simp at hl
 | g :: fs,v :: vs,k,mk,t,hl,h => by
  have h0:=h 0 g v rfl rfl
  rw [Nat.add_zero] at h0
  rw [rwT,h0,zc0 f tv x p fs vs (k + 1) _ _ (by simpa using hl) (fun i g' v' hg hv => by have:=h (i + 1) g' v' (by simpa using hg) (by simpa using hv);rw [show k + (i + 1) = k + 1 + i by omega] at this;exact this),List.zip_cons_cons,List.map_cons,zdk]
theorem zet {f : Ty -> ByteArray} {x : ByteArray} {p : Int} {c : Nat × Ty × ByteArray -> Nat} : ∀ (gs : List (Nat × Ty × ByteArray)) (k : Nat) (mk t : ByteArray),mk.size = 1 -> (∀ i g,gs[i]? = some g -> (if ((k + i : Nat) : Int) = p then x else f g.2.1).size + 3 <= c g) -> (rwT f x p gs k mk t).size <= t.size + 1 + (gs.map c).sum
 | [],k,mk,t,hm,h => by rw [rwT,ByteArray.size_append];have : (⟨#[125]⟩ : ByteArray).size = 1:=rfl;simp;omega
 | g :: gs,k,mk,t,hm,h => by
  have h0:=h 0 g rfl
  simp only [Nat.add_zero] at h0
  have ih:=zet (f:=f) (x:=x) (p:=p) (c:=c) gs (k + 1) ⟨#[44]⟩ (t ++ (((mk ++ oneB g.1) ++ ⟨#[58]⟩) ++ (if (k : Int) = p then x else f g.2.1))) rfl (fun i g' hg => by have:=h (i + 1) g' (by simpa using hg);rw [show k + (i + 1) = k + 1 + i by omega] at this;exact this)
  rw [rwT]
  have e1 : (⟨#[58]⟩ : ByteArray).size = 1:=rfl
  simp only [ByteArray.size_append,za7,hm,e1] at ih
  simp only [List.map_cons,List.sum_cons]
  omega
def zc8 (n : Nat) : Prop:=∀ (ty : Ty) (w : World) (ai af : Option Addr) (li ci lf cf : Nat),tyK n ty -> wt n ty <= 20000 -> Rep n w ai li ci af lf cf ty ->
 Calls Try.prog 59 #[.agg #[.int .i64 ty.kind,.string ty.letters,.bool ty.op,.slice ai li ci,.slice af lf cf]] w fun e w' => e = .returned (.string (txtV n ty (lv n ty))) /\ Below w.heap.size w w'
theorem zdo : ∀ (n : Nat) (ty : Ty),(txtV n ty (lv n ty)).size <= wt n ty
 | 0,ty => Nat.zero_le _
 | n + 1,ty => by
  have h70:=zgk n ty
  rw [lv]
  split
  ·rw [zpc];have:=zle 0;omega
  ·split
   ·rw [zpe];simp only [ByteArray.size_append];have:=zny;have : ByteArray.empty.size = 0:=rfl;omega
   ·split
    ·rw [zge,za7];omega
    ·split
     ·rw [zju];show (⟨#[91]⟩ ++ ⟨#[93]⟩ : ByteArray).size <= _;rw [ByteArray.size_append];have : (⟨#[91]⟩ : ByteArray).size = 1:=rfl;have : (⟨#[93]⟩ : ByteArray).size = 1:=rfl;omega
     ·split
      ·rw [zpb];have : (⟨#[95]⟩ : ByteArray).size = 1:=rfl;omega
      ·rw [zdz,<- zc0 (fun t => txtV n t (lv n t)) (txtV n) ByteArray.empty (-1) ty.fields _ 0 _ _ (by simp) (fun i g v hg hv => by
        rw [List.getElem?_map,hg] at hv;simp at hv;rw [if_neg (by omega),<- hv])]
       have:=zet (f:=fun t => txtV n t (lv n t)) (x:=ByteArray.empty) (p:=-1) (c:=fun f => wt n f.2.1 + f.2.2.size + 4) ty.fields 0 ⟨#[123]⟩ ByteArray.empty rfl (fun i g hg => by
        rw [if_neg (by omega)];have:=zdo n g.2.1;omega)
       have e : ByteArray.empty.size = 0:=rfl
       rw [wt];omega
theorem zf9 {α : Type} (c : α -> Nat) (K : Nat) : ∀ (l : List α) (x : α),x ∈ l -> (l.map c).sum <= K -> c x <= K
 | y :: l,x,h,hk => by
  simp at hk
  rcases List.mem_cons.1 h with rfl | h
  ·omega
  ·exact zf9 c K l x h (by omega)
theorem zi4 {n : Nat} (IH : zc8 n) (fs : List (Nat × Ty × ByteArray)) (p : Int) (x : ByteArray) (w : World) (af : Option Addr) (lf cf : Nat) (hlf : lf = fs.length) (hfl : fs.length <= 9000000) (hx : x.size <= 20000) (hk : ∀ f ∈ fs,f.1 < 256 /\ tyK n f.2.1) (hwt : (fs.map fun f => wt n f.2.1 + f.2.2.size + 4).sum <= 20000) (hr : RepF n w af fs) :
  Calls Try.prog 72 #[.slice af lf cf,.int .i64 p,.string x] w fun e w' => e = .returned (.string (rwT (fun t => txtV n t (lv n t)) x p fs 0 ⟨#[123]⟩ ByteArray.empty)) /\ Below w.heap.size w w':=by
 subst hlf
 obtain ⟨R,hR⟩ : ∃ R,R = rwT (fun t => txtV n t (lv n t)) x p fs 0 ⟨#[123]⟩ ByteArray.empty:=⟨_,rfl⟩
 rw [<- hR]
 have HR : Hid (R = rwT (fun t => txtV n t (lv n t)) x p (fs.drop 0) 0 ⟨#[123]⟩ ByteArray.empty):=hR
 clear hR
 have hfl2 : fs.length <= 5000:=by
  have : ∀ l : List (Nat × Ty × ByteArray),l.length * 4 <= (l.map fun f => wt n f.2.1 + f.2.2.size + 4).sum:=fun l => by
   induction l with
   | nil => simp
   | cons a l ih => simp;omega
  have:=this fs;omega
 go_enter Try.func72,Try.ntmps72
 go_wp2_with fail
 go_loopw [7,8,14] (fun vt vm vi wr => ∃ (i : Nat) (mk t : ByteArray),i <= fs.length /\ vi = .int .i64 i /\ vm = .string mk /\ vt = .string t /\ mk.size = 1 /\ t.size <= 20010 * i /\ Hid (R = rwT (fun t => txtV n t (lv n t)) x p (fs.drop i) i mk t) /\ Below w.heap.size w wr) (fun _ _ i _ => fs.length - (intOf i).toNat)
 case atStart => exact ⟨0,⟨#[123]⟩,ByteArray.empty,Nat.zero_le _,rfl,rfl,rfl,rfl,Nat.le_refl _,HR,Below.refl _ _⟩
 case round =>
  obtain ⟨i,mk,t,hi,rfl,rfl,rfl,hmk,hts,hR,hb⟩:=hrel
  have one1 : (⟨#[125]⟩ : ByteArray).size = 1:=rfl
  have one2 : (⟨#[58]⟩ : ByteArray).size = 1:=rfl
  have hmul : 20010 * i <= 20010 * 5000:=Nat.mul_le_mul_left _ (by omega)
  have hts2 : t.size <= 100050000:=by omega
  by_cases hlt : i < fs.length
  ·obtain ⟨f,hf⟩ : ∃ f,fs[i]? = some f:=⟨fs[i],List.getElem?_eq_getElem hlt⟩
   have hdrop : fs.drop i = f :: fs.drop (i + 1):=by
    rw [List.drop_eq_getElem_cons hlt];rw [List.getElem?_eq_getElem hlt] at hf;simp at hf;rw [hf]
   have hmem:=List.mem_of_getElem? hf
   obtain ⟨h256,hkf⟩:=hk f hmem
   have hwf : wt n f.2.1 <= 20000:=by
    have:=zf9 (fun f : Nat × Ty × ByteArray => wt n f.2.1 + f.2.2.size + 4) 20000 fs f hmem hwt
    omega
   rcases hr with ⟨hr,_⟩ | ⟨g,rfl,hcells⟩
   ·rw [hr] at hf;simp at hf
   ·obtain ⟨p1,p2,p3,q1,q2,q3,hrep,k0,k1,k2,k3,k4,k5,k6⟩:=hcells i f hf
    have k0:=zaa hb k0
    have k1:=zaa hb k1
    have k2:=zaa hb k2
    have k3:=zaa hb k3
    have k4:=zaa hb k4
    have k5:=zaa hb k5
    have k6:=zaa hb k6
    have hg' : g < wr.heap.size:=zaj k0
    have hBa : ∀ o,Below wr.heap.size wr (wr.alloc o):=fun o => (Below.refl _ _).alloc (Nat.le_refl _) _
    have hcall:=fun o => IH f.2.1 (wr.alloc o) p1 q1 p2 p3 q2 q3 hkf hwf ((hrep.keep hb).keep (hBa o))
    have hls:=zdo n f.2.1
    have hso : (oneB f.1).size = 1:=rfl
    have hz1 : (mk ++ oneB f.1).size = 2:=by rw [ByteArray.size_append,hmk,hso]
    have hz2 : (mk ++ oneB f.1 ++ ⟨#[58]⟩).size = 3:=by rw [ByteArray.size_append,hz1,one2]
    have hmul2 : 20010 * (i + 1) = 20010 * i + 20010:=by omega
    by_cases hp : (i : Int) = p
    ·have hp' : ((i : Int) != p) = false:=by simp [hp]
     have hr' : Hid (R = rwT (fun t => txtV n t (lv n t)) x p (fs.drop (i + 1)) (i + 1) ⟨#[44]⟩ (t ++ (mk ++ oneB f.1 ++ ⟨#[58]⟩ ++ x))):=by show _ = _;rw [hR.out,hdrop,rwT,if_pos hp]
     have hz3 : (mk ++ oneB f.1 ++ ⟨#[58]⟩ ++ x).size = 3 + x.size:=by rw [ByteArray.size_append,hz2]
     have HS : (t ++ (mk ++ oneB f.1 ++ ⟨#[58]⟩ ++ x)).size <= 20010 * (i + 1):=by rw [ByteArray.size_append,hz3];omega
     clear hdrop hf hcells hp hR hrep hls hmul hmul2
     go_wp2_with (first | (go_at_call 70;refine (zch f.1 _ (by omega)).mono ?_;rintro e w3 ⟨rfl,hb3⟩))
     go_roundw
     case rel => exact ⟨i + 1,⟨#[44]⟩,_,by omega,by go_num,rfl,rfl,rfl,HS,hr',hb.trans (((hBa _).trans (hb3.mono (by simp))).mono hb.size)⟩
     case measure => simp [intOf];omega
    ·have hp' : ((i : Int) != p) = true:=by simp [hp]
     obtain ⟨Y,hY⟩ : ∃ Y,Y = txtV n f.2.1 (lv n f.2.1):=⟨_,rfl⟩
     rw [<- hY] at hcall hls
     have hr' : Hid (R = rwT (fun t => txtV n t (lv n t)) x p (fs.drop (i + 1)) (i + 1) ⟨#[44]⟩ (t ++ (mk ++ oneB f.1 ++ ⟨#[58]⟩ ++ Y))):=by show _ = _;rw [hR.out,hdrop,rwT,if_neg hp,hY]
     have hz3 : (mk ++ oneB f.1 ++ ⟨#[58]⟩ ++ Y).size = 3 + Y.size:=by rw [ByteArray.size_append,hz2]
     have HS : (t ++ (mk ++ oneB f.1 ++ ⟨#[58]⟩ ++ Y)).size <= 20010 * (i + 1):=by rw [ByteArray.size_append,hz3];omega
     have hYs : Y.size <= 20000:=by omega
     clear hdrop hf hcells hp hR hrep hY hls hmul hmul2
     go_wp2_with (first | (go_at_call 59;refine (hcall _).mono ?_;rintro e w2 ⟨rfl,hb2⟩;obtain ⟨hc2,hf2⟩:=zam hb2) | (go_at_call 70;refine (zch f.1 _ (by omega)).mono ?_;rintro e w3 ⟨rfl,hb3⟩))
     go_roundw
     case rel => exact ⟨i + 1,⟨#[44]⟩,_,by omega,by go_num,rfl,rfl,rfl,HS,hr',hb.trans ((((hBa _).trans (hb2.mono (by simp))).trans (hb3.mono (by have:=hb2.size;simp at this;omega))).mono hb.size)⟩
     case measure => simp [intOf];omega
  ·have hnil : fs.drop i = []:=List.drop_of_length_le (by omega)
   have hr' : Hid (R = t ++ ⟨#[125]⟩):=by show _ = _;rw [hR.out,hnil,rwT]
   go_wp2_with fail
   go_ret
   exact ⟨zf6 hr'.out.symm,hb⟩
end
section
open Go.RowKit
end
section
open Go.RowKit
theorem zi0 {s : ByteArray} {a k : Nat} {ty : Ty} (h : zby s a = some (ty,k)) : ty.kind = 60 /\ ty.letters = s.extract a (zao isL s (s.size - a) a) /\ ty.letters.size <= 8:=by
 unfold zby at h
 simp only at h
 have hle:=zcb isL s (s.size - a) a
 generalize hE : zao isL s (s.size - a) a = E at h hle
 split at h
 ·cases h
 ·rename_i hc
  have hb : (s.extract a E).size <= 8:=by rw [ByteArray.size_extract];omega
  split at h
  iterate 2
   ·split at h
    ·simp only [Option.some.injEq,Prod.mk.injEq] at h;rw [<- h.1];exact ⟨rfl,rfl,hb⟩
    ·cases h
end
section
open Go.RowKit
end
section
open Go.RowKit
end
section
open Go.RowKit
theorem thn2 {w W w1 : World} (h : Below w.heap.size w W) (k : Below W.heap.size W w1) : Below w.heap.size w w1:=h.trans (k.mono h.size)
theorem zl5 (w : World) (af : Option Addr) (lf cf : Nat) (R : ByteArray) (h : Calls Try.prog 72 #[.slice af lf cf,.int .i64 (-1),.string ⟨#[]⟩] w fun e w' => e = .returned (.string R) /\ Below w.heap.size w w') :
  Calls Try.prog 67 #[.slice af lf cf] w fun e w' => e = .returned (.string R) /\ Below w.heap.size w w':=by
 go_enter Try.func67,Try.ntmps67
 go_wp2_with (first | (go_at_call 72;refine h.mono ?_;rintro e w1 ⟨rfl,hb1⟩))
 go_ret
 exact ⟨rfl,hb1⟩
theorem zhu {n : Nat} (IH : zc8 n) (fs : List (Nat × Ty × ByteArray)) (w : World) (af : Option Addr) (lf cf : Nat) (hlf : lf = fs.length) (hfl : fs.length <= 9000000) (hk : ∀ f ∈ fs,f.1 < 256 /\ tyK n f.2.1) (hwt : (fs.map fun f => wt n f.2.1 + f.2.2.size + 4).sum <= 20000) (hr : RepF n w af fs) :
  Calls Try.prog 67 #[.slice af lf cf] w fun e w' => e = .returned (.string (rwT (fun t => txtV n t (lv n t)) ⟨#[]⟩ (-1) fs 0 ⟨#[123]⟩ ByteArray.empty)) /\ Below w.heap.size w w' :=
 zl5 w af lf cf _ (zi4 IH fs (-1) ⟨#[]⟩ w af lf cf hlf hfl (Nat.zero_le _) hk hwt hr)
theorem zdn (ty : Ty) (w : World) (ai af : Option Addr) (li ci lf cf : Nat) (k : Nat) (x : ByteArray) (hk : ty.kind = k) (h : (k = 105 /\ x = ⟨#[48]⟩) \/ (k = 108 /\ x = ⟨#[48]⟩) \/ (k = 115 /\ x = ⟨#[34,34]⟩) \/ (k = 91 /\ x = ⟨#[91,93]⟩) \/ (k = 63 /\ x = ⟨#[95]⟩)) :
  Calls Try.prog 59 #[.agg #[.int .i64 ty.kind,.string ty.letters,.bool ty.op,.slice ai li ci,.slice af lf cf]] w fun e w' => e = .returned (.string x) /\ Below w.heap.size w w':=by
 have hB : ∀ o,Below w.heap.size w (w.alloc o):=fun o => (Below.refl _ _).alloc (Nat.le_refl _) _
 rw [hk]
 rcases h with ⟨rfl,rfl⟩ | ⟨rfl,rfl⟩ | ⟨rfl,rfl⟩ | ⟨rfl,rfl⟩ | ⟨rfl,rfl⟩ <;> (
  clear hk
  go_enter Try.func59,Try.ntmps59
  go_wp2_with fail
  go_ret
  exact ⟨rfl,by first | exact hB _ | exact Below.refl _ _⟩)
theorem zl6 (ty : Ty) (w : World) (ai af : Option Addr) (li ci lf cf : Nat) (hk : ty.kind = 60) (hl : ty.letters.size <= 8) :
  Calls Try.prog 59 #[.agg #[.int .i64 ty.kind,.string ty.letters,.bool ty.op,.slice ai li ci,.slice af lf cf]] w fun e w' => e = .returned (.string (ty.letters.extract 0 1)) /\ Below w.heap.size w w':=by
 have hB : ∀ o,Below w.heap.size w (w.alloc o):=fun o => (Below.refl _ _).alloc (Nat.le_refl _) _
 have hfl:=fun W => zlr ty ai li ci af lf cf W hl
 rw [hk] at hfl ⊢
 clear hk
 go_enter Try.func59,Try.ntmps59
 go_wp2_with (first | (go_at_call 66;refine (hfl _).mono ?_;rintro e w1 ⟨rfl,hb1⟩))
 go_ret
 exact ⟨rfl,by first | exact thn2 (hB _) hb1 | exact hb1⟩
theorem zl7 (ty : Ty) (w : World) (ai af : Option Addr) (li ci lf cf : Nat) (hk : ty.kind = 123) (x : ByteArray) (h : ∀ W,Below w.heap.size w W -> Calls Try.prog 67 #[.slice af lf cf] W fun e w' => e = .returned (.string x) /\ Below W.heap.size W w') :
  Calls Try.prog 59 #[.agg #[.int .i64 ty.kind,.string ty.letters,.bool ty.op,.slice ai li ci,.slice af lf cf]] w fun e w' => e = .returned (.string x) /\ Below w.heap.size w w':=by
 have hB : ∀ o,Below w.heap.size w (w.alloc o):=fun o => (Below.refl _ _).alloc (Nat.le_refl _) _
 rw [hk]
 clear hk
 go_enter Try.func59,Try.ntmps59
 go_wp2_with (first | (go_at_call 67;refine (h _ (by first | exact hB _ | exact Below.refl _ _)).mono ?_;rintro e w1 ⟨rfl,hb1⟩))
 go_ret
 exact ⟨rfl,by first | exact thn2 (hB _) hb1 | exact hb1⟩
theorem zl8 {n : Nat} (IH : zc8 n) : zc8 (n + 1):=by
 intro ty w ai af li ci lf cf hk hwt hr
 obtain ⟨hkk,hl1,_,hkf⟩:=hk
 have hl8 : ty.letters.size <= 8:=hr.1
 rcases hkk with h | h | h | h | h | h | h
 ·rw [show lv (n + 1) ty = .num 0 by rw [lv,if_pos (.inl h)]]
  exact zdn ty w ai af li ci lf cf _ _ h (.inl ⟨rfl,rfl⟩)
 ·rw [show lv (n + 1) ty = .num 0 by rw [lv,if_pos (.inr h)]]
  exact zdn ty w ai af li ci lf cf _ _ h (.inr (.inl ⟨rfl,rfl⟩))
 ·rw [show lv (n + 1) ty = .str ByteArray.empty by rw [lv,if_neg (by omega),if_pos h]]
  exact zdn ty w ai af li ci lf cf _ _ h (.inr (.inr (.inl ⟨rfl,by show (quo ++ ByteArray.empty ++ quo : ByteArray) = _;decide⟩)))
 ·rw [show lv (n + 1) ty = .cho 0 by rw [lv,if_neg (by omega),if_neg (by omega),if_pos h],zge,<- zlo ty.letters 0 (hl1 h)]
  exact zl6 ty w ai af li ci lf cf h hl8
 ·rw [show lv (n + 1) ty = .lst [] by rw [lv,if_neg (by omega),if_neg (by omega),if_neg (by omega),if_pos h]]
  exact zdn ty w ai af li ci lf cf _ _ h (.inr (.inr (.inr (.inl ⟨rfl,by show (⟨#[91]⟩ ++ ⟨#[93]⟩ : ByteArray) = _;decide⟩))))
 ·rw [show lv (n + 1) ty = .non by rw [lv,if_neg (by omega),if_neg (by omega),if_neg (by omega),if_neg (by omega),if_pos h]]
  exact zdn ty w ai af li ci lf cf _ _ h (.inr (.inr (.inr (.inr ⟨rfl,rfl⟩))))
 ·rw [show lv (n + 1) ty = .rcd (ty.fields.map fun f => lv n f.2.1) by rw [lv,if_neg (by omega),if_neg (by omega),if_neg (by omega),if_neg (by omega),if_neg (by omega)],zdz,<- zc0 (fun t => txtV n t (lv n t)) (txtV n) ⟨#[]⟩ (-1) ty.fields _ 0 _ _ (by simp) (fun i g v hg hv => by
        rw [List.getElem?_map,hg] at hv;simp at hv;rw [if_neg (by omega),<- hv])]
  refine zl7 ty w ai af li ci lf cf h _ (fun W hb => ?_)
  have hfl:=(hr.keep hb).flds
  exact zhu IH ty.fields W af lf cf hfl.1 hfl.2.1 hkf (by rw [wt] at hwt;omega) hfl.2.2
theorem zdm : ∀ n,zc8 n
 | 0 => fun ty w ai af li ci lf cf _ _ hr => hr.elim
 | n + 1 => zl8 (zdm n)
def unL (wl rl : ByteArray) (op : Bool) : Nat -> Nat -> Option Nat
 | 0,_ => none
 | m + 1,k => if (op || decide (0 <= pOf rl (bAt wl k))) = true then unL wl rl op m (k + 1) else some k
def zjx (wl : ByteArray) : Option Nat -> Value
 | some k => .tuple #[.string (oneB (bAt wl k).toNat),.bool true]
 | none => .tuple #[.string ByteArray.empty,.bool false]
theorem zpq (x r : Ty) (ai : Option Addr) (li ci : Nat) (af : Option Addr) (lf cf : Nat) (bi : Option Addr) (mi di : Nat) (bf : Option Addr) (mf df : Nat) (w : World) (hx8 : x.letters.size <= 8) (hr8 : r.letters.size <= 8) :
  Calls Try.prog 60 #[.agg #[.int .i64 x.kind,.string x.letters,.bool x.op,.slice ai li ci,.slice af lf cf],.agg #[.int .i64 r.kind,.string r.letters,.bool r.op,.slice bi mi di,.slice bf mf df]] w fun e w' => e = .returned (zjx x.letters (unL x.letters r.letters r.op x.letters.size 0)) /\ Below w.heap.size w w':=by
 have _hx : x.letters.size <= 9000000:=by omega
 obtain ⟨R,hR⟩ : ∃ R,R = unL x.letters r.letters r.op x.letters.size 0:=⟨_,rfl⟩
 rw [<- hR]
 have HR : Hid (R = unL x.letters r.letters r.op (x.letters.size - 0) 0):=hR
 clear hR
 go_enter Try.func60,Try.ntmps60
 go_wp2_with fail
 go_loopw [6] (fun vk wr => ∃ (k : Nat),k <= x.letters.size /\ vk = .int .i64 k /\ Hid (R = unL x.letters r.letters r.op (x.letters.size - k) k) /\ Below (w.heap.size + 2) ((w.alloc (.cells #[.int .i64 x.kind,.string x.letters,.bool x.op,.slice ai li ci,.slice af lf cf] 99)).alloc (.cells #[.int .i64 r.kind,.string r.letters,.bool r.op,.slice bi mi di,.slice bf mf df] 99)) wr) (fun k _ => 9 - (intOf k).toNat)
 case atStart => exact ⟨0,Nat.zero_le _,rfl,HR,Below.refl _ _⟩
 case round =>
  obtain ⟨k,hk,rfl,hR,hb⟩:=hrel
  have hbB : Below ((w.alloc (.cells #[.int .i64 x.kind,.string x.letters,.bool x.op,.slice ai li ci,.slice af lf cf] 99)).alloc (.cells #[.int .i64 r.kind,.string r.letters,.bool r.op,.slice bi mi di,.slice bf mf df] 99)).heap.size ((w.alloc (.cells #[.int .i64 x.kind,.string x.letters,.bool x.op,.slice ai li ci,.slice af lf cf] 99)).alloc (.cells #[.int .i64 r.kind,.string r.letters,.bool r.op,.slice bi mi di,.slice bf mf df] 99)) wr:=hb.mono (by simp)
  obtain ⟨hc,hf⟩:=zam hbB
  have hsw : w.heap.size + 2 <= wr.heap.size:=by have:=hb.size;simpa using this
  have hbw : Below w.heap.size w wr:=(((Below.refl _ _).alloc (Nat.le_refl _) _).alloc (by simp) _).trans (hb.mono (by omega))
  by_cases hlt : k < x.letters.size
  ·have hlt' : (k : Int) < (x.letters.size : Int):=by omega
   have hlo : 0 <= bAt x.letters k:=by rw [zct _ _ hlt];omega
   have hhi:=zgt x.letters k
   have hR2 : R = if (r.op || decide (0 <= pOf r.letters (bAt x.letters k))) = true then unL x.letters r.letters r.op (x.letters.size - (k + 1)) (k + 1) else some k:=by
    rw [hR.out,show x.letters.size - k = (x.letters.size - (k + 1)) + 1 by omega];rfl
   have hby:=fun W => zaw x.letters k W _hx
   have htk:=fun W => zoy r bi mi di bf mf df (bAt x.letters k) W hr8
   obtain ⟨c,hc0⟩ : ∃ c,c = bAt x.letters k:=⟨_,rfl⟩
   rw [<- hc0] at hlo hhi hR2 hby htk
   cases hT : (r.op || decide (0 <= pOf r.letters c)) with
   | true =>
    rw [hT] at htk
    have hr' : Hid (R = unL x.letters r.letters r.op (x.letters.size - (k + 1)) (k + 1)):=by show _ = _;rw [hR2,if_pos hT]
    clear hR2 hT hc0
    go_wp2_with (first | (go_at_call 68;refine (hby _).mono ?_;rintro e _ ⟨rfl,rfl⟩) | (go_at_call 69;refine (htk _).mono ?_;rintro e w1 ⟨rfl,hb1⟩))
    go_roundw
    case rel => exact ⟨k + 1,by omega,by go_num,hr',hb.trans (hb1.mono hsw)⟩
    case measure => simp [intOf];omega
   | false =>
    rw [hT] at htk
    have hr' : Hid (R = some k):=by show _ = _;rw [hR2,if_neg (by rw [hT];simp)]
    have HC : Hid (bAt x.letters k = c):=hc0.symm
    clear hR2 hT hc0
    go_wp2_with (first | (go_at_call 68;refine (hby _).mono ?_;rintro e _ ⟨rfl,rfl⟩) | (go_at_call 69;refine (htk _).mono ?_;rintro e w1 ⟨rfl,hb1⟩) | (go_at_call 70;refine (zen c _ hlo (by omega)).mono ?_;rintro e w2 ⟨rfl,hb2⟩))
    go_ret2
    rw [hr'.out]
    simp only [zjx,HC.out]
    exact ⟨rfl,thn2 (thn2 hbw hb1) hb2⟩
  ·have hr' : Hid (R = none):=by show _ = _;rw [hR.out,show x.letters.size - k = 0 by omega];rfl
   go_wp2_with fail
   go_ret2
   rw [hr'.out]
   exact ⟨rfl,hbw⟩
def unF (f : Ty -> Ty -> Option Val) (n : Nat) (wf : List (Nat × Ty × ByteArray)) : List (Nat × Ty × ByteArray) -> Option Val
 | [] => none
 | g :: gs =>
  match wf.findIdx? (fun h => h.1 == g.1) with
  | none => if g.2.2.size = 0 then some (.rcd (wf.map fun f => lv n f.2.1)) else unF f n wf gs
  | some p =>
   match f ((wf.map fun h => h.2.1).getD p (za8 0)) g.2.1 with
   | none => unF f n wf gs
   | some u => some (.rcd ((wf.map fun f => lv n f.2.1).set p u))
def zb5 (f g : Ty -> Ty -> Option Val) (n : Nat) (w r : Ty) : Option Val :=
 if w.kind = 63 /\ r.kind = 63 then (f w.in r.in).map Val.som
 else if r.kind = 63 then g w r.in
 else if za3 w.kind r.kind = true then none
 else if w.kind ≠ r.kind then some (lv (n + 1) w)
 else if w.kind = 60 then (unL w.letters r.letters r.op w.letters.size 0).map Val.cho
 else if w.kind = 91 then (f w.in r.in).map fun u => .lst [u]
 else if w.kind = 123 then unF f n w.fields r.fields
 else none
def unV : Nat -> Nat -> Ty -> Ty -> Option Val
 | 0,_,_,_ => none
 | _ + 1,0,_,_ => none
 | m + 1,n + 1,w,r => zb5 (unV m n) (unV m (n + 1)) n w r
def uR : Option ByteArray -> Value
 | some t => .tuple #[.string t,.bool true]
 | none => .tuple #[.string ByteArray.empty,.bool false]
end
end Go.Proofs.Ytkkekopomiehlab
