import Derived.Test.YtkkekopomiehlaaGreatCSm1
set_option linter.unusedVariables false
set_option linter.unusedSimpArgs false
set_option maxHeartbeats 40000000
namespace Go.Proofs.YtkkekopomiehlaaGreat
section
set_option maxRecDepth 4000
open Go.RowKit
theorem zqt {n : Nat} {ty : Ty} {p : Nat} {u : Val} {g : Nat × Ty × ByteArray} (hg : ty.fields[p]? = some g) : rwT (fun t => txtV n t (lv n t)) (txtV n g.2.1 u) (p : Nat) ty.fields 0 ⟨#[123]⟩ ByteArray.empty = txtV (n + 1) ty (.rcd ((ty.fields.map fun f => lv n f.2.1).set p u)):=by
 rw [zel]
 refine zfs (fun t => txtV n t (lv n t)) (txtV n) _ _ ty.fields _ 0 _ _ (by simp) (fun i g' v hg' hv => ?_)
 rw [Nat.zero_add]
 by_cases hi : i = p
 ·subst hi
  rw [if_pos rfl]
  rw [hg] at hg';cases hg'
  rw [List.getElem?_set_self (by rcases Nat.lt_or_ge i ty.fields.length with h | h;simpa using h;rw [List.getElem?_eq_none h] at hg;cases hg)] at hv
  cases hv;rfl
 ·rw [if_neg (by omega)]
  rw [List.getElem?_set_ne (by omega),List.getElem?_map,hg'] at hv
  simp at hv;rw [<- hv]
theorem zgm {fs : List (Nat × Ty × ByteArray)} {p : Nat} {g : Nat × Ty × ByteArray} (h : fs[p]? = some g) : (fs.map fun h => h.2.1).getD p (zbl 0) = g.2.1:=by
 rw [List.getD_eq_getElem?_getD,List.getElem?_map,h];rfl
theorem zlz {f : Ty -> Ty -> Option Val} {n : Nat} {ty : Ty} (hf : ∀ (g : Nat × Ty × ByteArray) r u,g ∈ ty.fields -> f g.2.1 r = some u -> (txtV n g.2.1 u).size <= wt n g.2.1) : ∀ (gs : List (Nat × Ty × ByteArray)) (u : Val),unF f n ty.fields gs = some u -> (txtV (n + 1) ty u).size <= wt (n + 1) ty
 | [],u,h => by simp [unF] at h
 | g :: gs,u,h => by
  have h70:=zem n ty
  have he : ByteArray.empty.size = 0:=rfl
  rw [unF] at h
  split at h
  ·split at h
   ·cases h
    rw [zel,<- zfs (fun t => txtV n t (lv n t)) (txtV n) ⟨#[]⟩ (-1) ty.fields _ 0 _ _ (by simp) (fun i g v hg hv => by
        rw [List.getElem?_map,hg] at hv;simp at hv;rw [if_neg (by omega),<- hv])]
    have:=ziq (f:=fun t => txtV n t (lv n t)) (x:=⟨#[]⟩) (p:=-1) (c:=fun f => wt n f.2.1 + f.2.2.size + 4) ty.fields 0 ⟨#[123]⟩ ByteArray.empty rfl (fun i g hg => by
        rw [if_neg (by omega)];have:=zgs n g.2.1;omega)
    rw [wt];omega
   ·exact zlz hf gs u h
  ·rename_i p hp
   rw [List.findIdx?_eq_some_iff_getElem] at hp
   obtain ⟨hpl,_⟩:=hp
   obtain ⟨q,hq⟩ : ∃ q,ty.fields[p]? = some q:=⟨ty.fields[p],List.getElem?_eq_getElem hpl⟩
   rw [zgm hq] at h
   split at h
   ·exact zlz hf gs u h
   ·rename_i v hv
    cases h
    rw [<- zqt hq]
    have h1:=hf q _ v (List.mem_of_getElem? hq) hv
    have:=ziq (f:=fun t => txtV n t (lv n t)) (x:=txtV n q.2.1 v) (p:=(p : Nat)) (c:=fun f => wt n f.2.1 + f.2.2.size + 4) ty.fields 0 ⟨#[123]⟩ ByteArray.empty rfl (fun i g hg => by
     rw [Nat.zero_add]
     by_cases hi : i = p
     ·subst hi;rw [if_pos rfl];rw [hq] at hg;cases hg;omega
     ·rw [if_neg (by omega)];have:=zgs n g.2.1;omega)
    rw [wt];omega
theorem wtI {m : Nat} {r : Ty} (h : r.inner ≠ []) : wt m r.in + 70 <= wt (m + 1) r:=by
 unfold Ty.in
 rcases hi : r.inner with _ | ⟨t,ts⟩
 ·exact absurd hi h
 ·rw [wt,hi];simp;omega
theorem zf0 : ∀ (m n : Nat) (x r : Ty) (u : Val),tyK n x -> unV m n x r = some u -> (txtV n x u).size <= wt n x
 | 0,n,x,r,u,hk,h => by simp [unV] at h
 | m + 1,0,x,r,u,hk,h => by simp [unV] at h
 | m + 1,n + 1,x,r,u,hk,h => by
  have h70:=zem n x
  change zch (unV m n) (unV m (n + 1)) n x r = some u at h
  unfold zch at h
  split at h
  ·rename_i hc
   obtain ⟨v,hv,rfl⟩:=Option.map_eq_some_iff.1 h
   have hi:=hk.2.2.1 (.inr hc.1)
   have:=zf0 m n x.in r.in v hi.2 hv
   have:=wtI (m:=n) hi.1
   rw [zi9];omega
  ·split at h
   ·exact zf0 m (n + 1) x r.in u hk h
   ·split at h
    ·cases h
    ·split at h
     ·cases h;exact zgs (n + 1) x
     ·split at h
      ·obtain ⟨v,hv,rfl⟩:=Option.map_eq_some_iff.1 h
       rw [zfy,zai];omega
      ·split at h
       ·rename_i h91
        obtain ⟨v,hv,rfl⟩:=Option.map_eq_some_iff.1 h
        have hi:=hk.2.2.1 (.inl h91)
        have:=zf0 m n x.in r.in v hi.2 hv
        have:=wtI (m:=n) hi.1
        rw [zfz]
        show (⟨#[91]⟩ ++ txtV n x.in v ++ ⟨#[93]⟩ : ByteArray).size <= _
        have e1 : (⟨#[91]⟩ : ByteArray).size = 1:=rfl
        have e2 : (⟨#[93]⟩ : ByteArray).size = 1:=rfl
        rw [ByteArray.size_append,ByteArray.size_append];omega
       ·split at h
        ·exact zlz (fun g r u hg hu => zf0 m n g.2.1 r u (hk.2.2.2 g hg).2 hu) _ u h
        ·cases h
def zhg (m : Nat) : Prop:=∀ (nw nr : Nat) (x r : Ty) (w : World) (ai af : Option Addr) (li ci lf cf : Nat) (bi bf : Option Addr) (mi di mf df : Nat),nw + nr <= m -> tyK nw x -> wt nw x <= 20000 -> Rep nw w ai li ci af lf cf x -> Rep nr w bi mi di bf mf df r ->
 Calls Tryz.prog 70 #[.agg #[.int .i64 x.kind,.string x.letters,.bool x.op,.slice ai li ci,.slice af lf cf],.agg #[.int .i64 r.kind,.string r.letters,.bool r.op,.slice bi mi di,.slice bf mf df]] w fun e w' => e = .returned (uR ((unV m nw x r).map (txtV nw x))) /\ Below w.heap.size w w'
theorem zrz (x r : Ty) (w : World) (ai : Option Addr) (li ci : Nat) (af : Option Addr) (lf cf : Nat) (bi : Option Addr) (mi di : Nat) (bf : Option Addr) (mf df : Nat) (y : ByteArray) (b : Bool) (hy : y.size <= 20000)
  (h : ∀ W,Below w.heap.size w W -> Calls Tryz.prog 70 #[.agg #[.int .i64 x.kind,.string x.letters,.bool x.op,.slice ai li ci,.slice af lf cf],.agg #[.int .i64 r.kind,.string r.letters,.bool r.op,.slice bi mi di,.slice bf mf df]] W fun e w' => e = .returned (.tuple #[.string y,.bool b]) /\ Below W.heap.size W w') :
  Calls Tryz.prog 88 #[.agg #[.int .i64 x.kind,.string x.letters,.bool x.op,.slice ai li ci,.slice af lf cf],.agg #[.int .i64 r.kind,.string r.letters,.bool r.op,.slice bi mi di,.slice bf mf df]] w fun e w' => e = .returned (if b = true then .tuple #[.string (⟨#[91]⟩ ++ y ++ ⟨#[93]⟩),.bool true] else .tuple #[.string ByteArray.empty,.bool false]) /\ Below w.heap.size w w':=by
 have hB : ∀ o o2,Below w.heap.size w ((w.alloc o).alloc o2):=fun o o2 => ((Below.refl _ _).alloc (Nat.le_refl _) _).alloc (by simp) _
 have e1 : (⟨#[91]⟩ : ByteArray).size = 1:=rfl
 have e2 : (⟨#[93]⟩ : ByteArray).size = 1:=rfl
 have e3 : (⟨#[91]⟩ ++ y : ByteArray).size = 1 + y.size:=by rw [ByteArray.size_append,e1]
 cases b with
 | true =>
  rw [if_pos rfl]
  go_enter Tryz.func88,Tryz.ntmps88
  go_wp2_with (first | (go_at_call 70;refine (h _ (hB _ _)).mono ?_;rintro e w1 ⟨rfl,hb1⟩))
  go_ret2
  exact ⟨rfl,thn2 (hB _ _) hb1⟩
 | false =>
  rw [if_neg (by simp)]
  go_enter Tryz.func88,Tryz.ntmps88
  go_wp2_with (first | (go_at_call 70;refine (h _ (hB _ _)).mono ?_;rintro e w1 ⟨rfl,hb1⟩))
  go_ret2
  exact ⟨rfl,thn2 (hB _ _) hb1⟩
theorem zxi (c : Nat) (fs : List (Nat × Ty × ByteArray)) : (plF fs c = -1 /\ fs.findIdx? (fun g => g.1 == c) = none) \/ ∃ i f,plF fs c = (i : Nat) /\ i < fs.length /\ fs[i]? = some f /\ fs.findIdx? (fun g => g.1 == c) = some i:=by
 unfold plF
 cases hx : fs.findIdx? (fun g => g.1 == c) with
 | none => exact .inl ⟨rfl,rfl⟩
 | some i =>
  have:=hx
  rw [List.findIdx?_eq_some_iff_getElem] at this
  exact .inr ⟨i,fs[i]'this.1,rfl,this.1,List.getElem?_eq_getElem this.1,rfl⟩
theorem zuy {d : ByteArray} (h : 1 <= d.size) : d.toList.isEmpty = false:=by
 rw [ByteArray.toList_eq]
 cases hl : d.data.toList with
 | nil =>
  have h2 : d.data.size = 0:=by rw [<- Array.length_toList,hl];rfl
  have h3 : d.size = d.data.size:=rfl
  omega
 | cons _ _ => rfl
theorem zeb {W w1 : World} (hb : Below W.heap.size W w1) {b o0 o1 o2 o3 o4 : Nat} {v0 v1 v2 v3 v4 : Value} (h : W.cell? ⟨b,o0,none⟩ = some v0 /\ W.cell? ⟨b,o1,none⟩ = some v1 /\ W.cell? ⟨b,o2,none⟩ = some v2 /\ W.cell? ⟨b,o3,none⟩ = some v3 /\ W.cell? ⟨b,o4,none⟩ = some v4) :
  w1.cell? ⟨b,o0,none⟩ = some v0 /\ w1.cell? ⟨b,o1,none⟩ = some v1 /\ w1.cell? ⟨b,o2,none⟩ = some v2 /\ w1.cell? ⟨b,o3,none⟩ = some v3 /\ w1.cell? ⟨b,o4,none⟩ = some v4:=by
 obtain ⟨h0,h1,h2,h3,h4⟩:=h
 exact ⟨zaa hb h0,zaa hb h1,zaa hb h2,zaa hb h3,zaa hb h4⟩
theorem zov {W : World} (o : Obj) {b o0 o1 o2 o3 o4 : Nat} {v0 v1 v2 v3 v4 : Value} (h : W.cell? ⟨b,o0,none⟩ = some v0 /\ W.cell? ⟨b,o1,none⟩ = some v1 /\ W.cell? ⟨b,o2,none⟩ = some v2 /\ W.cell? ⟨b,o3,none⟩ = some v3 /\ W.cell? ⟨b,o4,none⟩ = some v4) :
  (W.alloc o).cell? ⟨b,o0,none⟩ = some v0 /\ (W.alloc o).cell? ⟨b,o1,none⟩ = some v1 /\ (W.alloc o).cell? ⟨b,o2,none⟩ = some v2 /\ (W.alloc o).cell? ⟨b,o3,none⟩ = some v3 /\ (W.alloc o).cell? ⟨b,o4,none⟩ = some v4:=by
 obtain ⟨h0,h1,h2,h3,h4⟩:=h
 exact ⟨zaw _ h0,zaw _ h1,zaw _ h2,zaw _ h3,zaw _ h4⟩
theorem box7 (w : World) (gf : Nat × Ty × ByteArray) (bi : Option Addr) (mi di : Nat) (bf : Option Addr) (mf df : Nat) :
  (w.alloc (.cells #[.int .i64 gf.1,.int .i64 gf.2.1.kind,.string gf.2.1.letters,.bool gf.2.1.op,.slice bi mi di,.slice bf mf df,.string gf.2.2] 171)).cell? ⟨w.heap.size,1,none⟩ = some (.int .i64 gf.2.1.kind) /\ (w.alloc (.cells #[.int .i64 gf.1,.int .i64 gf.2.1.kind,.string gf.2.1.letters,.bool gf.2.1.op,.slice bi mi di,.slice bf mf df,.string gf.2.2] 171)).cell? ⟨w.heap.size,2,none⟩ = some (.string gf.2.1.letters) /\ (w.alloc (.cells #[.int .i64 gf.1,.int .i64 gf.2.1.kind,.string gf.2.1.letters,.bool gf.2.1.op,.slice bi mi di,.slice bf mf df,.string gf.2.2] 171)).cell? ⟨w.heap.size,3,none⟩ = some (.bool gf.2.1.op) /\ (w.alloc (.cells #[.int .i64 gf.1,.int .i64 gf.2.1.kind,.string gf.2.1.letters,.bool gf.2.1.op,.slice bi mi di,.slice bf mf df,.string gf.2.2] 171)).cell? ⟨w.heap.size,4,none⟩ = some (.slice bi mi di) /\ (w.alloc (.cells #[.int .i64 gf.1,.int .i64 gf.2.1.kind,.string gf.2.1.letters,.bool gf.2.1.op,.slice bi mi di,.slice bf mf df,.string gf.2.2] 171)).cell? ⟨w.heap.size,5,none⟩ = some (.slice bf mf df) :=
 ⟨za5 rfl rfl,za5 rfl rfl,za5 rfl rfl,za5 rfl rfl,za5 rfl rfl⟩
theorem yaa5 {m : Nat} (IH : zhg m) (nw nr : Nat) (hm : nw + nr <= m) (x : Ty) (gs : List (Nat × Ty × ByteArray)) (w : World) (af bf : Option Addr) (lf cf mf df : Nat) (hlf : lf = x.fields.length) (hmf : mf = gs.length) (hfl : x.fields.length <= 9000000) (hgl : gs.length <= 9000000) (hfn : x.fields ≠ []) (hk : ∀ f ∈ x.fields,f.1 < 256 /\ tyK nw f.2.1)
  (hwt : (x.fields.map fun f => wt nw f.2.1 + f.2.2.size + 4).sum <= 20000) (hr : RepF nw w af x.fields) (hrg : RepF nr w bf gs) :
  Calls Tryz.prog 89 #[.slice af lf cf,.slice bf mf df] w fun e w' => e = .returned (uR ((unF (unV m nw) nw x.fields gs).map (txtV (nw + 1) x))) /\ Below w.heap.size w w':=by
 subst hlf hmf
 rcases hr with ⟨hr,_⟩ | ⟨g,rfl,hcells⟩
 ·exact absurd hr hfn
 obtain ⟨R,hR⟩ : ∃ R,R = unF (unV m nw) nw x.fields gs:=⟨_,rfl⟩
 rw [<- hR]
 have HR : Hid (R = unF (unV m nw) nw x.fields (gs.drop 0)):=hR
 clear hR
 have hrf : ∀ W,Below w.heap.size w W -> RepF nw W (some ⟨g,0,none⟩) x.fields:=fun W hb => .inr ⟨g,rfl,fun i f hi => by
  obtain ⟨p1,p2,p3,q1,q2,q3,h0,k0,k1,k2,k3,k4,k5,k6⟩:=hcells i f hi
  exact ⟨p1,p2,p3,q1,q2,q3,h0.keep hb,zaa hb k0,zaa hb k1,zaa hb k2,zaa hb k3,zaa hb k4,zaa hb k5,zaa hb k6⟩⟩
 go_enter Tryz.func89,Tryz.ntmps89
 go_wp2_with fail
 go_loopw [13] (fun vi wr => ∃ (i : Nat),i <= gs.length /\ vi = .int .i64 i /\ Hid (R = unF (unV m nw) nw x.fields (gs.drop i)) /\ Below w.heap.size w wr) (fun i _ => gs.length - (intOf i).toNat)
 case atStart => exact ⟨0,Nat.zero_le _,rfl,HR,Below.refl _ _⟩
 case round =>
  obtain ⟨i,hi,rfl,hR,hb⟩:=hrel
  by_cases hlt : i < gs.length
  ·obtain ⟨gf,hf⟩ : ∃ f,gs[i]? = some f:=⟨gs[i],List.getElem?_eq_getElem hlt⟩
   have hdrop : gs.drop i = gf :: gs.drop (i + 1):=by
    rw [List.drop_eq_getElem_cons hlt];rw [List.getElem?_eq_getElem hlt] at hf;simp at hf;rw [hf]
   rcases hrg with ⟨hrg,_⟩ | ⟨h,rfl,hcellg⟩
   ·rw [hrg] at hf;simp at hf
   obtain ⟨p1,p2,p3,q1,q2,q3,hrep,k0,k1,k2,k3,k4,k5,k6⟩:=hcellg i gf hf
   have k0:=zaa hb k0
   have k1:=zaa hb k1
   have k2:=zaa hb k2
   have k3:=zaa hb k3
   have k4:=zaa hb k4
   have k5:=zaa hb k5
   have k6:=zaa hb k6
   have hg' : h < wr.heap.size:=zaf k0
   have hBa : ∀ o,Below wr.heap.size wr (wr.alloc o):=fun o => (Below.refl _ _).alloc (Nat.le_refl _) _
   have hpl : ∀ o,Calls Tryz.prog 112 #[.slice (some ⟨g,0,none⟩) x.fields.length cf,.int .i64 gf.1] (wr.alloc o) fun e w' => e = .returned (.int .i64 (plF x.fields gf.1)) /\ Below (wr.alloc o).heap.size (wr.alloc o) w':=fun o =>
    zpx x.fields gf.1 (wr.alloc o) g cf hfl (fun i f hi => by
     obtain ⟨a1,a2,a3,b1,b2,b3,_,c0,c1,c2,c3,c4,c5,c6⟩:=hcells i f hi
     have hq:=thn2 hb (hBa o)
     exact ⟨a1,a2,a3,b1,b2,b3,zaa hq c0,zaa hq c1,zaa hq c2,zaa hq c3,zaa hq c4,zaa hq c5,zaa hq c6⟩)
   rcases zxi gf.1 x.fields with ⟨hp1,hp2⟩ | ⟨p,f,hp1,hpl',hpf,hp2⟩
   ·rw [hp1] at hpl
    by_cases hz : gf.2.2.size = 0
    ·have hze : gf.2.2 = ByteArray.empty:=zeq hz (fun i hi => by omega)
     have hr' : Hid (R = some (.rcd (x.fields.map fun f => lv nw f.2.1))):=by show _ = _;rw [hR.out,hdrop,unF,hp2];simp only;rw [if_pos hz]
     have hlr:=fun (W : World) (hb' : Below w.heap.size w W) => zom (zgo nw) x.fields W (some ⟨g,0,none⟩) x.fields.length cf rfl hfl hk hwt (hrf W hb')
     have HT : Hid (rwT (fun t => txtV nw t (lv nw t)) ⟨#[]⟩ (-1) x.fields 0 ⟨#[123]⟩ ByteArray.empty = txtV (nw + 1) x (.rcd (x.fields.map fun f => lv nw f.2.1))):=by
      show _ = _
      rw [zel]
      exact zfs (fun t => txtV nw t (lv nw t)) (txtV nw) ⟨#[]⟩ (-1) x.fields _ 0 _ _ (by simp) (fun i g v hg hv => by rw [List.getElem?_map,hg] at hv;simp at hv;rw [if_neg (by omega),<- hv])
     rw [HT.out] at hlr
     obtain ⟨Y,hY⟩ : ∃ Y,Y = txtV (nw + 1) x (.rcd (x.fields.map fun f => lv nw f.2.1)):=⟨_,rfl⟩
     rw [<- hY] at hlr
     have HY : Hid (txtV (nw + 1) x (.rcd (x.fields.map fun f => lv nw f.2.1)) = Y):=hY.symm
     rw [hze] at k6
     clear hdrop hf hcellg hcells hR hp1 hp2 hz hY HT
     go_wp2_with (first | (go_at_call 112;refine (hpl _).mono ?_;rintro e w1 ⟨rfl,hb1⟩;obtain ⟨hc1,hf1⟩:=zal hb1;have hz1 : wr.heap.size < w1.heap.size:=(by have:=hb1.size;simp at this;omega)) | (go_at_call 109;refine (hlr _ (thn2 (thn2 hb (hBa _)) hb1)).mono ?_;rintro e w2 ⟨rfl,hb2⟩))
     go_ret2
     rw [hr'.out]
     simp only [Option.map_some,uR,HY.out]
     exact ⟨rfl,thn2 (thn2 (thn2 hb (hBa _)) hb1) hb2⟩
    ·have hr' : Hid (R = unF (unV m nw) nw x.fields (gs.drop (i + 1))):=by show _ = _;rw [hR.out,hdrop,unF,hp2];simp only;rw [if_neg hz]
     have hE : gf.2.2.toList.isEmpty = false:=zuy (by omega)
     clear hdrop hf hcellg hcells hR hp1 hp2 hz
     go_wp2_with (first | (go_at_call 112;refine (hpl _).mono ?_;rintro e w1 ⟨rfl,hb1⟩;obtain ⟨hc1,hf1⟩:=zal hb1;have hz1 : wr.heap.size < w1.heap.size:=(by have:=hb1.size;simp at this;omega)))
     go_roundw
     case rel => exact ⟨i + 1,by omega,by go_num,hr',thn2 (thn2 hb (hBa _)) hb1⟩
     case measure => simp [intOf];omega
   ·rw [hp1] at hpl
    obtain ⟨a1,a2,a3,b1,b2,b3,hrepf,c0,c1,c2,c3,c4,c5,c6⟩:=hcells p f hpf
    have hkf:=hk f (List.mem_of_getElem? hpf)
    have hwf : wt nw f.2.1 <= 20000:=by
     have:=zln (fun f : Nat × Ty × ByteArray => wt nw f.2.1 + f.2.2.size + 4) 20000 x.fields f (List.mem_of_getElem? hpf) hwt
     omega
    have hun:=fun (W : World) (hb' : Below wr.heap.size wr W) => IH nw nr f.2.1 gf.2.1 W a1 b1 a2 a3 b2 b3 p1 q1 p2 p3 q2 q3 hm hkf.2 hwf (hrepf.keep (thn2 hb hb')) (hrep.keep (thn2 hb hb'))
    have c0':=zaa hb c0
    have hgw : g < wr.heap.size:=zaf c0'
    have k71 : wr.cell? ⟨g,p * 7 + 1,none⟩ = some (.int .i64 f.2.1.kind) /\ wr.cell? ⟨g,p * 7 + 2,none⟩ = some (.string f.2.1.letters) /\ wr.cell? ⟨g,p * 7 + 3,none⟩ = some (.bool f.2.1.op) /\ wr.cell? ⟨g,p * 7 + 4,none⟩ = some (.slice a1 a2 a3) /\ wr.cell? ⟨g,p * 7 + 5,none⟩ = some (.slice b1 b2 b3):=⟨zaa hb c1,zaa hb c2,zaa hb c3,zaa hb c4,zaa hb c5⟩
    have hgd:=zgm hpf
    cases hy : unV m nw f.2.1 gf.2.1 with
    | none =>
     have hr' : Hid (R = unF (unV m nw) nw x.fields (gs.drop (i + 1))):=by show _ = _;rw [hR.out,hdrop,unF,hp2];simp only;rw [hgd,hy]
     rw [hy] at hun
     simp only [Option.map_none,uR] at hun
     clear hdrop hf hcellg hcells hR hp1 hp2 hy hgd hrepf c0 c1 c2 c3 c4 c5 c6 c0' hkf hwf hk hwt hpf
     go_wp2_with (first | (go_at_call 112;refine (hpl _).mono ?_;rintro e w1 ⟨rfl,hb1⟩;obtain ⟨hc1,hf1⟩:=zal hb1;have hz1 : wr.heap.size < w1.heap.size:=(by have:=hb1.size;simp at this;omega)))
     have e5:=zeb hb1 (box7 wr gf p1 p2 p3 q1 q2 q3)
     have e7:=zeb hb1 (zov (.cells #[.int .i64 gf.1,.int .i64 gf.2.1.kind,.string gf.2.1.letters,.bool gf.2.1.op,.slice p1 p2 p3,.slice q1 q2 q3,.string gf.2.2] 171) k71)
     go_region_held3 (fun w' => (w'.cell? ⟨wr.heap.size,1,none⟩ = some (.int .i64 gf.2.1.kind) /\ w'.cell? ⟨wr.heap.size,2,none⟩ = some (.string gf.2.1.letters) /\ w'.cell? ⟨wr.heap.size,3,none⟩ = some (.bool gf.2.1.op) /\ w'.cell? ⟨wr.heap.size,4,none⟩ = some (.slice p1 p2 p3) /\ w'.cell? ⟨wr.heap.size,5,none⟩ = some (.slice q1 q2 q3)) /\ w'.cell? ⟨g,p * 7 + 1,none⟩ = some (.int .i64 f.2.1.kind) /\ w'.cell? ⟨g,p * 7 + 2,none⟩ = some (.string f.2.1.letters) /\ w'.cell? ⟨g,p * 7 + 3,none⟩ = some (.bool f.2.1.op) /\ w'.cell? ⟨g,p * 7 + 4,none⟩ = some (.slice a1 a2 a3) /\ w'.cell? ⟨g,p * 7 + 5,none⟩ = some (.slice b1 b2 b3)) (go_keep) (first | (go_at_call 70;refine (hun _ (by first | exact (thn2 (hBa _) hb1).drew | exact thn2 (hBa _) hb1)).mono ?_;rintro e w2 ⟨rfl,hb2⟩;have e5':=zeb hb2 e5;have e7':=zeb hb2 e7))
     go_wp2_with fail
     go_roundw
     case rel => exact ⟨i + 1,by omega,by go_num,hr',thn2 (thn2 (thn2 hb (hBa _)) hb1).drew hb2⟩
     case measure => simp [intOf];omega
    | some u =>
     have hr' : Hid (R = some (.rcd ((x.fields.map fun f => lv nw f.2.1).set p u))):=by show _ = _;rw [hR.out,hdrop,unF,hp2];simp only;rw [hgd,hy]
     rw [hy] at hun
     simp only [Option.map_some,uR] at hun
     have hus:=zf0 m nw f.2.1 gf.2.1 u hkf.2 hy
     have hrw:=fun (W : World) (hb' : Below w.heap.size w W) => zqf (zgo nw) x.fields (p : Nat) (txtV nw f.2.1 u) W (some ⟨g,0,none⟩) x.fields.length cf rfl hfl (by omega) hk hwt (hrf W hb')
     rw [zqt hpf] at hrw
     obtain ⟨Y,hY⟩ : ∃ Y,Y = txtV (nw + 1) x (.rcd ((x.fields.map fun f => lv nw f.2.1).set p u)):=⟨_,rfl⟩
     rw [<- hY] at hrw
     have HY : Hid (txtV (nw + 1) x (.rcd ((x.fields.map fun f => lv nw f.2.1).set p u)) = Y):=hY.symm
     generalize txtV nw f.2.1 u = Z at hun hrw hus
     clear hdrop hf hcellg hcells hR hp1 hp2 hy hgd hrepf c0 c1 c2 c3 c4 c5 c6 c0' hkf hwf hk hwt hpf hY hus
     go_wp2_with (first | (go_at_call 112;refine (hpl _).mono ?_;rintro e w1 ⟨rfl,hb1⟩;obtain ⟨hc1,hf1⟩:=zal hb1;have hz1 : wr.heap.size < w1.heap.size:=(by have:=hb1.size;simp at this;omega)))
     have e5:=zeb hb1 (box7 wr gf p1 p2 p3 q1 q2 q3)
     have e7:=zeb hb1 (zov (.cells #[.int .i64 gf.1,.int .i64 gf.2.1.kind,.string gf.2.1.letters,.bool gf.2.1.op,.slice p1 p2 p3,.slice q1 q2 q3,.string gf.2.2] 171) k71)
     go_region_held3 (fun w' => (w'.cell? ⟨wr.heap.size,1,none⟩ = some (.int .i64 gf.2.1.kind) /\ w'.cell? ⟨wr.heap.size,2,none⟩ = some (.string gf.2.1.letters) /\ w'.cell? ⟨wr.heap.size,3,none⟩ = some (.bool gf.2.1.op) /\ w'.cell? ⟨wr.heap.size,4,none⟩ = some (.slice p1 p2 p3) /\ w'.cell? ⟨wr.heap.size,5,none⟩ = some (.slice q1 q2 q3)) /\ w'.cell? ⟨g,p * 7 + 1,none⟩ = some (.int .i64 f.2.1.kind) /\ w'.cell? ⟨g,p * 7 + 2,none⟩ = some (.string f.2.1.letters) /\ w'.cell? ⟨g,p * 7 + 3,none⟩ = some (.bool f.2.1.op) /\ w'.cell? ⟨g,p * 7 + 4,none⟩ = some (.slice a1 a2 a3) /\ w'.cell? ⟨g,p * 7 + 5,none⟩ = some (.slice b1 b2 b3)) (go_keep) (first | (go_at_call 70;refine (hun _ (by first | exact (thn2 (hBa _) hb1).drew | exact thn2 (hBa _) hb1)).mono ?_;rintro e w2 ⟨rfl,hb2⟩;have e5':=zeb hb2 e5;have e7':=zeb hb2 e7))
     go_wp2_with (first | (go_at_call 113;refine (hrw _ (thn2 (thn2 (thn2 hb (hBa _)) hb1).drew hb2)).mono ?_;rintro e w3 ⟨rfl,hb3⟩))
     go_ret2
     rw [hr'.out]
     simp only [Option.map_some,uR,HY.out]
     exact ⟨rfl,thn2 (thn2 (thn2 (thn2 hb (hBa _)) hb1).drew hb2) hb3⟩
  ·have hnil : gs.drop i = []:=List.drop_of_length_le (by omega)
   have hr' : Hid (R = none):=by show _ = _;rw [hR.out,hnil,unF]
   go_wp2_with fail
   go_ret2
   rw [hr'.out]
   exact ⟨rfl,hb⟩
end
end Go.Proofs.YtkkekopomiehlaaGreat
