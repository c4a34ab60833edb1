import Derived.Test.YtkkekopomiehlaaGreatCSf13
set_option linter.unusedVariables false
set_option linter.unusedSimpArgs false
set_option maxHeartbeats 40000000
namespace Go.Proofs.YtkkekopomiehlaaGreat
section
set_option maxRecDepth 16000
open Go.RowKit
open Go.Lib (below_setCells)
def chTo (P : Nat -> Bool) (n k : Nat) : List Bool:=(List.range n).map fun p => decide (p < k) && P p
theorem zcz (P : Nat -> Bool) (n k : Nat) : (chTo P n k).length = n:=by simp [chTo]
theorem zju (P : Nat -> Bool) (n k : Nat) {p : Nat} (h : p < n) : (chTo P n k)[p]? = some (decide (p < k) && P p):=by rw [chTo,List.getElem?_map,List.getElem?_range h];rfl
theorem zgc (P : Nat -> Bool) (n : Nat) : chTo P n 0 = List.replicate n false:=by
 apply List.ext_getElem?
 intro k
 by_cases hk : k < n
 ·rw [zju P n 0 hk,List.getElem?_replicate,if_pos hk];simp
 ·rw [List.getElem?_eq_none (by rw [zcz];omega),List.getElem?_eq_none (by simp;omega)]
theorem zgb (P : Nat -> Bool) {n k : Nat} (hk : k < n) : chTo P n (k + 1) = (chTo P n k).set k (P k):=by
 apply List.ext_getElem?
 intro q
 by_cases hq : q < n
 ·rw [zju P n (k + 1) hq,List.getElem?_set]
  by_cases hkq : k = q
  ·subst hkq;rw [if_pos rfl,if_pos (by rw [zcz];exact hk)];simp
  ·rw [if_neg hkq,zju P n k hq]
   by_cases h : q < k
   ·simp [h,show q < k + 1 by omega]
   ·simp [h,show ¬ q < k + 1 by omega]
 ·rw [List.getElem?_eq_none (by rw [zcz];omega),List.getElem?_eq_none (by rw [List.length_set,zcz];omega)]
theorem zjv (P : Nat -> Bool) {n k k' : Nat} (hk : k <= k') (h : ∀ p,k <= p -> p < k' -> P p = false) : chTo P n k = chTo P n k':=by
 unfold chTo
 refine List.map_congr_left fun p hp => ?_
 by_cases h1 : p < k
 ·simp [h1,show p < k' by omega]
 ·by_cases h2 : p < k'
  ·rw [h p (by omega) h2];simp
  ·simp [h1,h2]
theorem zga (P : Nat -> Bool) (n k : Nat) (h : ∀ p,k <= p -> p < n -> P p = false) : chTo P n k = (List.range n).map P:=by
 unfold chTo
 refine List.map_congr_left fun p hp => ?_
 have:=List.mem_range.1 hp
 by_cases h1 : p < k
 ·simp [h1]
 ·rw [h p (by omega) this];simp
def chB (f : zae) (A F : Nat -> Bool) (k q : Nat) : List Bool:=chTo (thB f) 9 k ++ (chTo (fsB f) 9 k ++ (chTo (wnB f) 9 k ++ (chTo A 81 q ++ chTo F 81 q)))
theorem zf9 (f : zae) (A F : Nat -> Bool) (k q : Nat) : (chB f A F k q).length = 189:=by simp [chB,zcz]
theorem ztk (f : zae) (A F : Nat -> Bool) : chB f A F 0 0 = List.replicate 189 false:=by
 unfold chB;rw [zgc,zgc,zgc,zgc,zgc];rfl
theorem zdp {a b : List Bool} {n i : Nat} (h : a.length = n) (x : Bool) : (a ++ b).set (n + i) x = a ++ b.set i x:=by
 rw [List.set_append_right _ _ (by omega),h,show n + i - n = i by omega]
theorem set3 {a b c d : List Bool} {k : Nat} (ha : a.length = 9) (hb : b.length = 9) (hc : c.length = 9) (hk : k < 9) (x y z : Bool) : (((a ++ (b ++ (c ++ d))).set k x).set (9 + k) y).set (18 + k) z = a.set k x ++ (b.set k y ++ (c.set k z ++ d)):=by
 have e1 : (a ++ (b ++ (c ++ d))).set k x = a.set k x ++ (b ++ (c ++ d)):=List.set_append_left _ _ (by omega)
 have e2 : (a.set k x ++ (b ++ (c ++ d))).set (9 + k) y = a.set k x ++ (b.set k y ++ (c ++ d)):=by rw [zdp (by rw [List.length_set];exact ha),List.set_append_left _ _ (by omega)]
 have e3 : (a.set k x ++ (b.set k y ++ (c ++ d))).set (18 + k) z = a.set k x ++ (b.set k y ++ (c.set k z ++ d)):=by
  rw [show 18 + k = 9 + (9 + k) by omega,zdp (by rw [List.length_set];exact ha),zdp (by rw [List.length_set];exact hb),List.set_append_left _ _ (by omega)]
 rw [e1,e2,e3]
theorem set2 {a b c d e : List Bool} {q : Nat} (ha : a.length = 9) (hb : b.length = 9) (hc : c.length = 9) (hd : d.length = 81) (hq : q < 81) (x y : Bool) : ((a ++ (b ++ (c ++ (d ++ e)))).set (27 + q) x).set (108 + q) y = a ++ (b ++ (c ++ (d.set q x ++ e.set q y))):=by
 have e1 : (a ++ (b ++ (c ++ (d ++ e)))).set (27 + q) x = a ++ (b ++ (c ++ (d.set q x ++ e))):=by
  rw [show 27 + q = 9 + (9 + (9 + q)) by omega,zdp ha,zdp hb,zdp hc,List.set_append_left _ _ (by omega)]
 have e2 : (a ++ (b ++ (c ++ (d.set q x ++ e)))).set (108 + q) y = a ++ (b ++ (c ++ (d.set q x ++ e.set q y))):=by
  rw [show 108 + q = 9 + (9 + (9 + (81 + q))) by omega,zdp ha,zdp hb,zdp hc,zdp (by rw [List.length_set];exact hd)]
 rw [e1,e2]
theorem ztj (f : zae) (A F : Nat -> Bool) {k : Nat} (hk : k < 9) : chB f A F (k + 1) 0 = (((chB f A F k 0).set k (thB f k)).set (9 + k) (fsB f k)).set (18 + k) (wnB f k):=by
 unfold chB
 rw [set3 (zcz _ _ _) (zcz _ _ _) (zcz _ _ _) hk,zgb _ hk,zgb _ hk,zgb _ hk]
theorem zti (f : zae) (A F : Nat -> Bool) {k q : Nat} (hq : q < 81) : chB f A F k (q + 1) = ((chB f A F k q).set (27 + q) (A q)).set (108 + q) (F q):=by
 unfold chB
 rw [set2 (zcz _ _ _) (zcz _ _ _) (zcz _ _ _) (zcz _ _ _) hq,zgb _ hq,zgb _ hq]
theorem zmn (f : zae) (A F : Nat -> Bool) {k k' : Nat} (hk : k <= k') (h : ∀ p,k <= p -> p < k' -> thB f p = false) : chB f A F k 0 = chB f A F k' 0:=by
 have h1 : ∀ p,k <= p -> p < k' -> fsB f p = false:=fun p a b => by
  have:=h p a b
  unfold thB at this;unfold fsB
  cases hv : f.vs[p / 3]? with
  | none => rfl
  | some v => rw [hv] at this;simp only at this ⊢;rw [this];rfl
 have h2 : ∀ p,k <= p -> p < k' -> wnB f p = false:=fun p a b => by
  have:=h p a b
  unfold thB at this;unfold wnB
  cases hv : f.vs[p / 3]? with
  | none => rfl
  | some v => rw [hv] at this;simp only at this ⊢;rw [this];rfl
 unfold chB
 rw [zjv _ hk h,zjv _ hk h1,zjv _ hk h2]
def PvAt (w : World) (f : zae) (k : Nat) (pv : List Value) : Prop:=pv.length = 9 /\ ∀ p v,pv[p]? = some v -> ∃ pa pl pc,v = .slice pa pl pc /\ PinSl w pa pl pc (if p < k then plOf f p else [])
theorem PvAt.zero (w : World) (f : zae) : PvAt w f 0 (List.replicate 9 (.slice none 0 0)):=by
 refine ⟨by simp,fun p v h => ?_⟩
 rw [List.getElem?_replicate] at h
 split at h
 ·cases h;exact ⟨none,0,0,rfl,by rw [if_neg (by omega)];exact ⟨rfl,Nat.zero_le _,Nat.le_refl _,Nat.zero_le _,fun i p hi => by simp at hi⟩⟩
 ·cases h
theorem PvAt.step {w : World} {f : zae} {k : Nat} {pv : List Value} (h : PvAt w f k pv) {pa : Option Addr} {pl pc : Nat} (hp : PinSl w pa pl pc (plOf f k)) : PvAt w f (k + 1) (pv.set k (.slice pa pl pc)):=by
 refine ⟨by simp [h.1],fun p v hv => ?_⟩
 rw [List.getElem?_set] at hv
 by_cases hk : k = p
 ·subst hk
  rw [if_pos rfl] at hv
  split at hv
  ·cases hv;exact ⟨pa,pl,pc,rfl,by rw [if_pos (by omega)];exact hp⟩
  ·cases hv
 ·rw [if_neg hk] at hv
  obtain ⟨a,b,c,h1,h2⟩:=h.2 p v hv
  refine ⟨a,b,c,h1,?_⟩
  by_cases hl : p < k
  ·rw [if_pos hl] at h2;rw [if_pos (by omega)];exact h2
  ·rw [if_neg hl] at h2;rw [if_neg (by omega)];exact h2
theorem PvAt.skip {w : World} {f : zae} {k k' : Nat} {pv : List Value} (h : PvAt w f k pv) (hk : k <= k') (hn : ∀ p,k <= p -> p < k' -> plOf f p = []) : PvAt w f k' pv:=by
 refine ⟨h.1,fun p v hv => ?_⟩
 obtain ⟨a,b,c,h1,h2⟩:=h.2 p v hv
 refine ⟨a,b,c,h1,?_⟩
 by_cases hl : p < k
 ·rw [if_pos hl] at h2;rw [if_pos (by omega)];exact h2
 ·rw [if_neg hl] at h2
  by_cases hl2 : p < k'
  ·rw [if_pos hl2,hn p (by omega) hl2];exact h2
  ·rw [if_neg hl2];exact h2
theorem zpv {f : zae} {s p : Nat} {v : SvcD} (hv : f.vs[s]? = some v) (h1 : s * 3 + v.rels.length <= p) (h2 : p < (s + 1) * 3) : thB f p = false /\ plOf f p = []:=by
 have e : p / 3 = s:=by omega
 unfold thB plOf
 rw [e,hv]
 refine ⟨by simp;omega,?_⟩
 simp only
 rw [List.getD,List.getElem?_eq_none (by omega)];rfl
theorem zpw {f : zae} {p : Nat} (h : f.vs.length * 3 <= p) : thB f p = false /\ plOf f p = []:=by
 unfold thB plOf
 rw [List.getElem?_eq_none (by omega)]
 exact ⟨rfl,rfl⟩
theorem zxn {f : zae} {s r : Nat} {v : SvcD} {ps : List PinD} (hv : f.vs[s]? = some v) (hr : v.rels[r]? = some ps) (h3 : r < 3) : plOf f (s * 3 + r) = ps /\ thB f (s * 3 + r) = true /\ fsB f (s * 3 + r) = ((r : Int) == v.now) /\ wnB f (s * 3 + r) = ((r : Int) == v.want):=by
 have e1 : (s * 3 + r) / 3 = s:=by omega
 have e2 : (s * 3 + r) % 3 = r:=by omega
 have hl:=(List.getElem?_eq_some_iff.1 hr).1
 unfold plOf thB fsB wnB
 rw [e1,e2,hv]
 have hg : v.rels[r] = ps:=by rw [List.getElem?_eq_getElem hl] at hr;exact Option.some.inj hr
 simp [List.getD,hl,hg]
theorem Tryz.zeroCht : Tryz.zeroCells52 = ((List.replicate 189 false).map Value.bool).toArray:=by kernel_rfl
structure Ck (w : World) (fv : List Value) (wr : World) (bs : List Bool) (pv : List Value) : Prop where
 F : RowIs wr w.heap.size 26 fv
 R : RowIs wr (w.heap.size + 1) 52 ((List.replicate 189 false).map .bool)
 C : RowIs wr (w.heap.size + 1 + 1) 52 (bs.map .bool)
 P : RowIs wr (w.heap.size + 1 + 1 + 1) 98 pv
 bl : Below w.heap.size w wr
theorem Ck.keep {w : World} {fv : List Value} {wr wr' : World} {bs : List Bool} {pv : List Value} (h : Ck w fv wr bs pv) (hb : Below wr.heap.size wr wr') : Ck w fv wr' bs pv :=
 ⟨h.F.keep hb,h.R.keep hb,h.C.keep hb,h.P.keep hb,h.bl.trans (hb.mono h.bl.size)⟩
theorem Ck.setC {w : World} {fv : List Value} {wr : World} {bs : List Bool} {pv : List Value} (h : Ck w fv wr bs pv) (i : Nat) (x : Bool) : Ck w fv (wr.setCell ⟨w.heap.size + 1 + 1,i,none⟩ (.bool x)) (bs.set i x) pv:=by
 refine ⟨h.F.setOther (by show w.heap.size + 1 + 1 ≠ w.heap.size;omega) _,h.R.setOther (by show w.heap.size + 1 + 1 ≠ w.heap.size + 1;omega) _,?_,h.P.setOther (by show w.heap.size + 1 + 1 ≠ w.heap.size + 1 + 1 + 1;omega) _,h.bl.setCell (by show w.heap.size <= w.heap.size + 1 + 1;omega) _⟩
 rw [List.map_set];exact h.C.set i (.bool x)
theorem Ck.setP {w : World} {fv : List Value} {wr : World} {bs : List Bool} {pv : List Value} (h : Ck w fv wr bs pv) (i : Nat) (v : Value) : Ck w fv (wr.setCell ⟨w.heap.size + 1 + 1 + 1,i,none⟩ v) bs (pv.set i v) :=
 ⟨h.F.setOther (by show w.heap.size + 1 + 1 + 1 ≠ w.heap.size;omega) _,h.R.setOther (by show w.heap.size + 1 + 1 + 1 ≠ w.heap.size + 1;omega) _,h.C.setOther (by show w.heap.size + 1 + 1 + 1 ≠ w.heap.size + 1 + 1;omega) _,h.P.set i v,h.bl.setCell (by show w.heap.size <= w.heap.size + 1 + 1 + 1;omega) _⟩
theorem Ck.drew {w : World} {fv : List Value} {wr : World} {bs : List Bool} {pv : List Value} (h : Ck w fv wr bs pv) : Ck w fv wr.drew bs pv:=⟨h.F,h.R,h.C,h.P,h.bl.drew⟩
theorem zp5 {w : World} {b o : Nat} {cs : List Value} (h : w.rangeAt b o cs) {p : Addr} (hp : p.block ≠ b) (u : Value) : (w.setCell p u).rangeAt b o cs:=fun j v hj => by
 rw [World.cell?_setCell_far _ _ _ _ (by exact hp)];exact h j v hj
theorem zn1 (H : Nat -> Nat -> Bool) : ((List.range 9).map fun a => (List.range 9).map (H a)).flatten = (List.range 81).map fun q => H (q / 9) (q % 9):=by
 have hr : ∀ r ∈ ((List.range 9).map fun a => (List.range 9).map (H a)),r.length = 9:=fun r hr => by
  obtain ⟨i,_,rfl⟩:=List.mem_map.1 hr;simp
 apply List.ext_getElem?
 intro k
 by_cases hk : k < 81
 ·have h1 : ((List.range 9).map fun a => (List.range 9).map (H a))[k / 9]? = some ((List.range 9).map (H (k / 9))):=by rw [List.getElem?_map,List.getElem?_range (by omega)];rfl
  have h2:=zhv _ (k / 9) (k % 9) _ hr h1 (by omega)
  rw [show k / 9 * 9 + k % 9 = k by omega] at h2
  rw [h2,List.getElem?_map,List.getElem?_map,List.getElem?_range (by omega),List.getElem?_range hk];rfl
 ·rw [List.getElem?_eq_none (by rw [zfd _ hr];simp;omega),List.getElem?_eq_none (by simp;omega)]
theorem zth (f : zae) : chB f (fun q => cmpA (zbd f.ss) (plOf f (q / 9)) (plOf f (q % 9))) (fun q => cmpF (zbd f.ss) f.ts (plOf f (q / 9)) (plOf f (q % 9))) 9 81 = (zad f).bits:=by
 unfold chB ChD.bits zad
 rw [zga _ 9 9 (fun p a b => by omega),zga _ 9 9 (fun p a b => by omega),zga _ 9 9 (fun p a b => by omega),zga _ 81 81 (fun p a b => by omega),zga _ 81 81 (fun p a b => by omega)]
 simp only
 rw [zn1 (fun a b => cmpA (zbd f.ss) (plOf f a) (plOf f b)),zn1 (fun a b => cmpF (zbd f.ss) f.ts (plOf f a) (plOf f b))]
theorem Ck.cellC {w : World} {fv : List Value} {wr : World} {bs : List Bool} {pv : List Value} (h : Ck w fv wr bs pv) {i : Nat} (hi : i < bs.length) : ∃ u,wr.cell? ⟨w.heap.size + 1 + 1,i,none⟩ = some u:=⟨_,h.C.cell (by rw [List.getElem?_map,List.getElem?_eq_getElem hi];rfl)⟩
theorem Ck.cellP {w : World} {fv : List Value} {wr : World} {bs : List Bool} {pv : List Value} (h : Ck w fv wr bs pv) {i : Nat} (hi : i < pv.length) : ∃ u,wr.cell? ⟨w.heap.size + 1 + 1 + 1,i,none⟩ = some u:=⟨_,h.P.cell (List.getElem?_eq_getElem hi)⟩
theorem zsb (f : zae) (ho : Ord f) (sa ta va : Option Addr) (sl sc tl tc vl vc : Nat) (w : World) (hf : FleetAt w sa sl sc ta tl tc va vl vc f) :
  Calls Tryz.prog 21 #[.agg #[.slice sa sl sc,.slice ta tl tc,.slice va vl vc]] w fun e W => e = .returned (.agg (zad f).cells.toArray) /\ Below w.heap.size w W:=by
 have hv1:=hf.v1
 have h3:=ho.vs3
 have HF:= zab hf
 have HOD:= zab ho
 obtain ⟨v1a,v1b⟩ : vl <= f.vs.length /\ f.vs.length <= vl:=by omega
 clear hf ho hv1
 obtain ⟨A,hA⟩ : ∃ A : Nat -> Bool,A = fun q => cmpA (zbd f.ss) (plOf f (q / 9)) (plOf f (q % 9)):=⟨_,rfl⟩
 obtain ⟨F,hFF⟩ : ∃ F : Nat -> Bool,F = fun q => cmpF (zbd f.ss) f.ts (plOf f (q / 9)) (plOf f (q % 9)):=⟨_,rfl⟩
 have HA:= zab hA
 have HFF:= zab hFF
 clear hA hFF
 have hck0 : ∀ W,W = ((((w.alloc (.cells #[.slice sa sl sc,.slice ta tl tc,.slice va vl vc] 26)).alloc (.cells Tryz.zeroCells52 52)).alloc (.cells Tryz.zeroCells52 52)).alloc (.cells #[.slice none 0 0,.slice none 0 0,.slice none 0 0,.slice none 0 0,.slice none 0 0,.slice none 0 0,.slice none 0 0,.slice none 0 0,.slice none 0 0] 98)) -> Ck w [.slice sa sl sc,.slice ta tl tc,.slice va vl vc] W (chB f A F 0 0) (List.replicate 9 (.slice none 0 0)):=fun W hW => by
  subst hW
  have z1:=za2 w (.cells #[.slice sa sl sc,.slice ta tl tc,.slice va vl vc] 26)
  refine ⟨?_,?_,?_,?_,((((Below.refl _ _).alloc (Nat.le_refl _) _).alloc (by simp) _).alloc (by simp;omega) _).alloc (by simp;omega) _⟩
  ·exact RowIs.keep (RowIs.keep (RowIs.keep (w:=w.alloc (.cells #[.slice sa sl sc,.slice ta tl tc,.slice va vl vc] 26)) (zay w _) (belS _ _)) (belS _ _)) (belS _ _)
  ·refine RowIs.keep (RowIs.keep ?_ (belS _ _)) (belS _ _)
   have:=zay (w.alloc (.cells #[.slice sa sl sc,.slice ta tl tc,.slice va vl vc] 26)) (.cells Tryz.zeroCells52 52)
   rw [z1] at this
   unfold RowIs;rw [<- Tryz.zeroCht];exact this
  ·refine RowIs.keep ?_ (belS _ _)
   have:=zay ((w.alloc (.cells #[.slice sa sl sc,.slice ta tl tc,.slice va vl vc] 26)).alloc (.cells Tryz.zeroCells52 52)) (.cells Tryz.zeroCells52 52)
   rw [za2,z1] at this
   unfold RowIs;rw [ztk,<- Tryz.zeroCht];exact this
  ·have:=zay (((w.alloc (.cells #[.slice sa sl sc,.slice ta tl tc,.slice va vl vc] 26)).alloc (.cells Tryz.zeroCells52 52)).alloc (.cells Tryz.zeroCells52 52)) (.cells #[.slice none 0 0,.slice none 0 0,.slice none 0 0,.slice none 0 0,.slice none 0 0,.slice none 0 0,.slice none 0 0,.slice none 0 0,.slice none 0 0] 98)
   rw [za2,za2,z1] at this
   exact this
 have HCK0:= zab hck0
 clear hck0
 go_enter Tryz.func21,Tryz.ntmps21
 go_wp2_with fail
 go_loopw [18] (fun vi wr => ∃ (s : Nat) (pv : List Value),s <= vl /\ vi = .int .i64 s /\ Hid (Ck w [.slice sa sl sc,.slice ta tl tc,.slice va vl vc] wr (chB f A F (s * 3) 0) pv) /\ Hid (PvAt w f (s * 3) pv)) (fun s _ => vl - (intOf s).toNat)
 case atStart => exact ⟨0,_,Nat.zero_le _,rfl,HCK0.out _ rfl,PvAt.zero w f⟩
 case round =>
  obtain ⟨s,pv,hs,rfl,hck,hpv⟩:=hrel
  rename World => w5
  have hx0 := znn s
  have hz5:=hck.out.P.lt
  by_cases hlt : s < vl
  ·obtain ⟨v,hv⟩ : ∃ v,f.vs[s]? = some v:=⟨f.vs[s]'(by omega),List.getElem?_eq_getElem (by omega)⟩
   obtain ⟨b,o,ra,rl,rc,rfl,c0,c1,c2,c3,hrl⟩:=HF.out.v3 s v hv
   have hpt:=HOD.out.parts (List.mem_of_getElem? hv)
   have hrle : rl = v.rels.length:=hrl.1
   obtain ⟨rla,rlb⟩ : rl <= v.rels.length /\ v.rels.length <= rl:=by omega
   have hrl3 : rl <= 3:=by have:=hpt.2.1;omega
   have c0:=zaa hck.out.bl c0
   have c1:=zaa hck.out.bl c1
   have c2:=zaa hck.out.bl c2
   have c3:=zaa hck.out.bl c3
   have hbl:=zaf c0
   have hx1 : (s : Int) < (vl : Int):=by omega
   have HV:= zab hv
   have HRL:= zab hrl.2.2.2.2
   have hsb : RowIs (w5.alloc (.cells #[.int .i64 v.size,.int .i64 v.now,.int .i64 v.want,.slice ra rl rc] 67)) w5.heap.size 67 [.int .i64 v.size,.int .i64 v.now,.int .i64 v.want,.slice ra rl rc]:=zay w5 _
   have HSB:= zab hsb
   clear hv hrl hpt hrle hsb
   go_wp2_with fail
   clear c0 c1 c2 c3
   go_loopw [26] (fun vr wr => ∃ (r : Nat) (pv : List Value),r <= rl /\ vr = .int .i64 r /\ Hid (Ck w [.slice sa sl sc,.slice ta tl tc,.slice (some ⟨b,o,none⟩) vl vc] wr (chB f A F (s * 3 + r) 0) pv) /\ Hid (PvAt w f (s * 3 + r) pv) /\ RowIs wr w5.heap.size 67 [.int .i64 v.size,.int .i64 v.now,.int .i64 v.want,.slice ra rl rc]) (fun r _ => rl - (intOf r).toNat)
   case atStart => exact ⟨0,pv,Nat.zero_le _,rfl,hck.out.keep (belS _ _),hpv,HSB.out⟩
   case round =>
    clear hck hpv
    obtain ⟨r,pv,hr,rfl,hck,hpv,hsv⟩:=hrel
    have hy0 := znn r
    by_cases hrlt : r < rl
    ·obtain ⟨ps,hps⟩ : ∃ ps,v.rels[r]? = some ps:=⟨v.rels[r]'(by omega),List.getElem?_eq_getElem (by omega)⟩
     obtain ⟨bR,oR,pa,pl,pc,rfl,d0,hpsl⟩:=HRL.out r ps hps
     obtain ⟨e1,e2,e3,e4⟩:=zxn HV.out hps (by omega)
     have d0:=zaa hck.out.bl d0
     have hy1 : (r : Int) < (rl : Int):=by omega
     have hpl:=fun W => zup (s : Int) (r : Int) W
     rw [show plI (s : Int) (r : Int) = ((s * 3 + r : Nat) : Int) by
      unfold plI
      rw [show numB (s : Int) 3 = true by unfold numB;simp;omega,show numB (r : Int) 3 = true by unfold numB;simp;omega]
      simp] at hpl
     have hst:=ztj f A F (k:=s * 3 + r) (by omega)
     rw [e2,e3,e4] at hst
     have hpp : PinSl w pa pl pc (plOf f (s * 3 + r)):=by rw [e1];exact hpsl
     have hpst:=hpv.out.step hpp
     obtain ⟨p0,hp0⟩ : ∃ p0,p0 = s * 3 + r:=⟨_,rfl⟩
     have hp9 : p0 < 9:=by omega
     have hp9' : ((p0 : Nat) : Int) < 9:=by omega
     have hp90 : (0 : Int) <= ((p0 : Nat) : Int):=Int.natCast_nonneg _
     rw [<- hp0] at hpl
     have HP0:= zab hp0
     have HST:= zab hst
     have HPST:= zab hpst
     have s1 : wr.cell? ⟨w5.heap.size,1,none⟩ = some (.int .i64 v.now):=hsv.cell rfl
     have s2 : wr.cell? ⟨w5.heap.size,2,none⟩ = some (.int .i64 v.want):=hsv.cell rfl
     have hsl5:=hsv.lt
     have hCl:=hck.out.C.lt
     have hPl:=hck.out.P.lt
     have HSV:= zab hsv
     clear hps hpsl e1 e2 e3 e4 hst hpst hpp hp0 hsv
     have hrest : ∀ w9,Below (wr.alloc (.cells #[.slice pa pl pc] 92)).heap.size (wr.alloc (.cells #[.slice pa pl pc] 92)) w9 ->
       ((∃ u,w9.cell? ⟨w.heap.size + 1 + 1,p0,none⟩ = some u) /\ w9.frozen? ⟨w.heap.size + 1 + 1,p0,none⟩ = false) /\
       ((∃ u,(w9.setCell ⟨w.heap.size + 1 + 1,p0,none⟩ (.bool true)).cell? ⟨w.heap.size + 1 + 1,9 + p0,none⟩ = some u) /\ (w9.setCell ⟨w.heap.size + 1 + 1,p0,none⟩ (.bool true)).frozen? ⟨w.heap.size + 1 + 1,9 + p0,none⟩ = false /\ (w9.setCell ⟨w.heap.size + 1 + 1,p0,none⟩ (.bool true)).cell? ⟨w5.heap.size,1,none⟩ = some (.int .i64 v.now)) /\
       ((∃ u,((w9.setCell ⟨w.heap.size + 1 + 1,p0,none⟩ (.bool true)).setCell ⟨w.heap.size + 1 + 1,9 + p0,none⟩ (.bool ((r : Int) == v.now))).cell? ⟨w.heap.size + 1 + 1,18 + p0,none⟩ = some u) /\ ((w9.setCell ⟨w.heap.size + 1 + 1,p0,none⟩ (.bool true)).setCell ⟨w.heap.size + 1 + 1,9 + p0,none⟩ (.bool ((r : Int) == v.now))).frozen? ⟨w.heap.size + 1 + 1,18 + p0,none⟩ = false /\ ((w9.setCell ⟨w.heap.size + 1 + 1,p0,none⟩ (.bool true)).setCell ⟨w.heap.size + 1 + 1,9 + p0,none⟩ (.bool ((r : Int) == v.now))).cell? ⟨w5.heap.size,2,none⟩ = some (.int .i64 v.want)) /\
       ((∃ u,(((w9.setCell ⟨w.heap.size + 1 + 1,p0,none⟩ (.bool true)).setCell ⟨w.heap.size + 1 + 1,9 + p0,none⟩ (.bool ((r : Int) == v.now))).setCell ⟨w.heap.size + 1 + 1,18 + p0,none⟩ (.bool ((r : Int) == v.want))).cell? ⟨w.heap.size + 1 + 1 + 1,p0,none⟩ = some u) /\ (((w9.setCell ⟨w.heap.size + 1 + 1,p0,none⟩ (.bool true)).setCell ⟨w.heap.size + 1 + 1,9 + p0,none⟩ (.bool ((r : Int) == v.now))).setCell ⟨w.heap.size + 1 + 1,18 + p0,none⟩ (.bool ((r : Int) == v.want))).frozen? ⟨w.heap.size + 1 + 1 + 1,p0,none⟩ = false /\ (((w9.setCell ⟨w.heap.size + 1 + 1,p0,none⟩ (.bool true)).setCell ⟨w.heap.size + 1 + 1,9 + p0,none⟩ (.bool ((r : Int) == v.now))).setCell ⟨w.heap.size + 1 + 1,18 + p0,none⟩ (.bool ((r : Int) == v.want))).cell? ⟨wr.heap.size,0,none⟩ = some (.slice pa pl pc)) /\
       Ck w [.slice sa sl sc,.slice ta tl tc,.slice (some ⟨b,o,none⟩) vl vc] ((((w9.setCell ⟨w.heap.size + 1 + 1,p0,none⟩ (.bool true)).setCell ⟨w.heap.size + 1 + 1,9 + p0,none⟩ (.bool ((r : Int) == v.now))).setCell ⟨w.heap.size + 1 + 1,18 + p0,none⟩ (.bool ((r : Int) == v.want))).setCell ⟨w.heap.size + 1 + 1 + 1,p0,none⟩ (.slice pa pl pc)) (chB f A F (s * 3 + r + 1) 0) (pv.set p0 (.slice pa pl pc)) /\
       RowIs ((((w9.setCell ⟨w.heap.size + 1 + 1,p0,none⟩ (.bool true)).setCell ⟨w.heap.size + 1 + 1,9 + p0,none⟩ (.bool ((r : Int) == v.now))).setCell ⟨w.heap.size + 1 + 1,18 + p0,none⟩ (.bool ((r : Int) == v.want))).setCell ⟨w.heap.size + 1 + 1 + 1,p0,none⟩ (.slice pa pl pc)) w5.heap.size 67 [.int .i64 v.size,.int .i64 v.now,.int .i64 v.want,.slice (some ⟨bR,oR,none⟩) rl rc]:=fun w9 hb9 => by
      have k9:=(hck.out.keep (belS wr (.cells #[.slice pa pl pc] 92))).keep hb9
      have k1:=k9.setC p0 true
      have k2:=k1.setC (9 + p0) ((r : Int) == v.now)
      have k3:=k2.setC (18 + p0) ((r : Int) == v.want)
      have k4:=k3.setP p0 (.slice pa pl pc)
      have v9:=(HSV.out.keep (belS wr (.cells #[.slice pa pl pc] 92))).keep hb9
      have v1:=v9.setOther (p:=⟨w.heap.size + 1 + 1,p0,none⟩) (by show w.heap.size + 1 + 1 ≠ w5.heap.size;omega) (.bool true)
      have v2:=v1.setOther (p:=⟨w.heap.size + 1 + 1,9 + p0,none⟩) (by show w.heap.size + 1 + 1 ≠ w5.heap.size;omega) (.bool ((r : Int) == v.now))
      have v3:=v2.setOther (p:=⟨w.heap.size + 1 + 1,18 + p0,none⟩) (by show w.heap.size + 1 + 1 ≠ w5.heap.size;omega) (.bool ((r : Int) == v.want))
      have v4:=v3.setOther (p:=⟨w.heap.size + 1 + 1 + 1,p0,none⟩) (by show w.heap.size + 1 + 1 + 1 ≠ w5.heap.size;omega) (.slice pa pl pc)
      have r0 : RowIs (wr.alloc (.cells #[.slice pa pl pc] 92)) wr.heap.size 92 [.slice pa pl pc]:=zay wr _
      have r3:=(((r0.keep hb9).setOther (p:=⟨w.heap.size + 1 + 1,p0,none⟩) (by show w.heap.size + 1 + 1 ≠ wr.heap.size;omega) (.bool true)).setOther (p:=⟨w.heap.size + 1 + 1,9 + p0,none⟩) (by show w.heap.size + 1 + 1 ≠ wr.heap.size;omega) (.bool ((r : Int) == v.now))).setOther (p:=⟨w.heap.size + 1 + 1,18 + p0,none⟩) (by show w.heap.size + 1 + 1 ≠ wr.heap.size;omega) (.bool ((r : Int) == v.want))
      have hl:=hpv.out.1
      refine ⟨⟨k9.cellC (by rw [zf9];omega),k9.C.frozen _⟩,⟨k1.cellC (by rw [List.length_set,zf9];omega),k1.C.frozen _,v1.cell rfl⟩,⟨k2.cellC (by rw [List.length_set,List.length_set,zf9];omega),k2.C.frozen _,v2.cell rfl⟩,⟨k3.cellP (by omega),k3.P.frozen _,r3.cell rfl⟩,?_,v4⟩
      rw [HST.out]
      rw [HP0.out] at k4 ⊢
      exact k4
     have HREST:= zab hrest
     clear hrest
     go_wp2_with (go_at_call 45;refine (hpl _).mono ?_;rintro e w9 ⟨rfl,hb9⟩;have hR9:=(zab (HREST.out w9 hb9));obtain ⟨⟨⟨x0,y0⟩,z0⟩,⟨⟨x1,y1⟩,z1,t1⟩,⟨⟨x2,y2⟩,z2,t2⟩,⟨⟨x3,y3⟩,z3,t3⟩,_,_⟩:=hR9.out)
     go_roundw
     case rel => exact ⟨r + 1,pv.set p0 (.slice pa pl pc),by omega,by go_num,hR9.out.2.2.2.2.1,by rw [HP0.out];exact HPST.out,hR9.out.2.2.2.2.2⟩
     case measure => simp [intOf];omega
    ·have hre : r = rl:=by omega
     subst hre
     have hrow:=zmn f A F (k:=s * 3 + r) (k':=(s + 1) * 3) (by omega) (fun p a1 a2 => (zpv HV.out (by omega) a2).1)
     have hpv2:=hpv.out.skip (k':=(s + 1) * 3) (by omega) (fun p a1 a2 => (zpv HV.out (by omega) a2).2)
     have hck2:=hck.out
     rw [hrow] at hck2
     have HCK2:= zab hck2
     have HPV2:= zab hpv2
     clear hrow hpv2 hck2 hck hpv hsv
     go_wp2_with fail
     go_roundw
     case rel => exact ⟨s + 1,pv,by omega,by go_num,HCK2,HPV2⟩
     case measure => simp [intOf];omega
  ·have hse : s = vl:=by omega
   subst hse
   have hrow:=zmn f A F (k:=s * 3) (k':=9) (by omega) (fun p a1 a2 => (zpw (by omega)).1)
   have hpv2:=hpv.out.skip (k':=9) (by omega) (fun p a1 a2 => (zpw (by omega)).2)
   have hck2:=hck.out
   rw [hrow] at hck2
   have HPV2:= zab hpv2
   have HCK2:= zab hck2
   clear hrow hpv2 hck2 hck hpv
   obtain ⟨T,hT⟩ : ∃ T,T = zbd f.ss:=⟨_,rfl⟩
   have hTok : tabOk T:=by rw [hT];exact zfv _
   have hro:=fun (W : World) (h : Below w.heap.size w W) => zx5 f.ss HOD.out.sch W sa sc (HF.out.s4.keep h)
   rw [<- hT,<- HF.out.s1] at hro
   have HT:= zab hT
   have it:=hTok.info
   have it2 : (Tryz.prog.info? 101).map (·.size) = some (tabC T).toArray.size:=by rw [List.size_toArray];exact it
   have i1 : (tabC T).toArray.all (·.oneCell') = true:=zd9 _
   have hcl : (tabC T).length = 64:=hTok.len
   have hz : ∀ W : World,(W.alloc (.cells #[.bool false,.bool false,.bool false,.bool false,.bool false,.bool false,.bool false,.bool false,.bool false,.bool false,.bool false,.bool false,.bool false,.bool false,.bool false,.bool false,.bool false,.bool false,.bool false,.bool false,.bool false,.bool false,.bool false,.bool false,.bool false,.bool false,.bool false,.bool false,.bool false,.bool false,.bool false,.bool false,.bool false,.bool false,.bool false,.bool false,.bool false,.bool false,.bool false,.bool false,.bool false,.bool false,.bool false,.bool false,.bool false,.bool false,.bool false,.bool false,.bool false,.bool false,.bool false,.bool false,.bool false,.bool false,.bool false,.bool false,.bool false,.bool false,.bool false,.bool false,.bool false,.bool false,.bool false,.bool false] 101)).there W.heap.size 0 (tabC T).toArray.size:=fun W => by
    rw [show (tabC T).toArray.size = 64 by simpa using hcl];exact zdb (zay W _)
   have HTOK:= zab hTok
   have HCL:= zab hcl
   clear hT hTok hcl
   have f0 : w5.cell? ⟨w.heap.size,0,none⟩ = some (.slice sa sl sc):=HCK2.out.F.cell rfl
   have hb5:=HCK2.out.bl
   have hfl : w.heap.size < w5.heap.size:=zaf f0
   go_wp2_with (first
    | (go_at_call 46;refine (hro _ hb5).mono ?_;rintro e w7 ⟨rfl,hb7⟩;have hz7:=hz w7)
    | (have hq:=hz7;refine wpList_store_mid rfl 101 _ _ rfl w7.heap.size 0 (tabC T).toArray rfl rfl hz7 it2 i1 ?_))
   have rt0:=World.rangeAt_setCells_same (w7.alloc (.cells #[.bool false,.bool false,.bool false,.bool false,.bool false,.bool false,.bool false,.bool false,.bool false,.bool false,.bool false,.bool false,.bool false,.bool false,.bool false,.bool false,.bool false,.bool false,.bool false,.bool false,.bool false,.bool false,.bool false,.bool false,.bool false,.bool false,.bool false,.bool false,.bool false,.bool false,.bool false,.bool false,.bool false,.bool false,.bool false,.bool false,.bool false,.bool false,.bool false,.bool false,.bool false,.bool false,.bool false,.bool false,.bool false,.bool false,.bool false,.bool false,.bool false,.bool false,.bool false,.bool false,.bool false,.bool false,.bool false,.bool false,.bool false,.bool false,.bool false,.bool false,.bool false,.bool false,.bool false,.bool false] 101)) w7.heap.size 0 (tabC T) (by simpa using hz7)
   have hb8 : Below w7.heap.size w7 ((w7.alloc (.cells #[.bool false,.bool false,.bool false,.bool false,.bool false,.bool false,.bool false,.bool false,.bool false,.bool false,.bool false,.bool false,.bool false,.bool false,.bool false,.bool false,.bool false,.bool false,.bool false,.bool false,.bool false,.bool false,.bool false,.bool false,.bool false,.bool false,.bool false,.bool false,.bool false,.bool false,.bool false,.bool false,.bool false,.bool false,.bool false,.bool false,.bool false,.bool false,.bool false,.bool false,.bool false,.bool false,.bool false,.bool false,.bool false,.bool false,.bool false,.bool false,.bool false,.bool false,.bool false,.bool false,.bool false,.bool false,.bool false,.bool false,.bool false,.bool false,.bool false,.bool false,.bool false,.bool false,.bool false,.bool false] 101)).setCells w7.heap.size 0 (tabC T)):=below_setCells w7.heap.size (Nat.le_refl _) _ _ (belS _ _)
   have hck8:=(HCK2.out.keep hb7).keep hb8
   have HCK8:= zab hck8
   have HRT:= zab rt0
   clear hck8 rt0 hz hz7 f0
   generalize (w7.alloc (.cells #[.bool false,.bool false,.bool false,.bool false,.bool false,.bool false,.bool false,.bool false,.bool false,.bool false,.bool false,.bool false,.bool false,.bool false,.bool false,.bool false,.bool false,.bool false,.bool false,.bool false,.bool false,.bool false,.bool false,.bool false,.bool false,.bool false,.bool false,.bool false,.bool false,.bool false,.bool false,.bool false,.bool false,.bool false,.bool false,.bool false,.bool false,.bool false,.bool false,.bool false,.bool false,.bool false,.bool false,.bool false,.bool false,.bool false,.bool false,.bool false,.bool false,.bool false,.bool false,.bool false,.bool false,.bool false,.bool false,.bool false,.bool false,.bool false,.bool false,.bool false,.bool false,.bool false,.bool false,.bool false] 101)).setCells w7.heap.size 0 (tabC T) = w8 at HCK8 HRT hb8 ⊢
   go_loopw [11] (fun va' wr => ∃ a : Nat,a <= 9 /\ va' = .int .i64 a /\ Hid (Ck w [.slice sa sl sc,.slice ta tl tc,.slice va s vc] wr (chB f A F 9 (a * 9)) pv) /\ Hid (wr.rangeAt w7.heap.size 0 (tabC T))) (fun a _ => 9 - (intOf a).toNat)
   case atStart => exact ⟨0,by omega,rfl,HCK8,HRT⟩
   case round =>
    obtain ⟨a,ha,rfl,hck,hrt⟩:=hrel
    have hx0 := znn a
    by_cases hlt : a < 9
    ·have hx1 : (a : Int) < 9:=by omega
     go_wp2_with fail
     go_loopw [12] (fun vb wr => ∃ b : Nat,b <= 9 /\ vb = .int .i64 b /\ Hid (Ck w [.slice sa sl sc,.slice ta tl tc,.slice va s vc] wr (chB f A F 9 (a * 9 + b)) pv) /\ Hid (wr.rangeAt w7.heap.size 0 (tabC T))) (fun b _ => 9 - (intOf b).toNat)
     case atStart => exact ⟨0,by omega,rfl,hck,hrt⟩
     case round =>
      clear hck hrt
      obtain ⟨b,hbb,rfl,hck,hrt⟩:=hrel
      have hy0 := znn b
      by_cases hblt : b < 9
      ·have hy1 : (b : Int) < 9:=by omega
       have hl9:=HPV2.out.1
       obtain ⟨va1,hva1⟩ : ∃ v,pv[a]? = some v:=⟨pv[a]'(by omega),List.getElem?_eq_getElem (by omega)⟩
       obtain ⟨vb1,hvb1⟩ : ∃ v,pv[b]? = some v:=⟨pv[b]'(by omega),List.getElem?_eq_getElem (by omega)⟩
       obtain ⟨pa,pl,pc,rfl,hpa⟩:=HPV2.out.2 a va1 hva1
       obtain ⟨qa,ql,qc,rfl,hqa⟩:=HPV2.out.2 b vb1 hvb1
       rw [if_pos hlt] at hpa
       rw [if_pos hblt] at hqa
       have p1 : wr.cell? ⟨w.heap.size + 1 + 1 + 1,a,none⟩ = some (.slice pa pl pc):=hck.out.P.cell hva1
       have p2 : wr.cell? ⟨w.heap.size + 1 + 1 + 1,b,none⟩ = some (.slice qa ql qc):=hck.out.P.cell hvb1
       have f1 : wr.cell? ⟨w.heap.size,1,none⟩ = some (.slice ta tl tc):=hck.out.F.cell rfl
       have hcmp:=fun (W : World) (h : Below w.heap.size w W) => ztq T HTOK.out f.ts (plOf f a) (plOf f b) ta pa qa tc pc qc W HF.out.t2 hpa.2.1 hqa.2.1 (HF.out.t3.keep h) (hpa.2.2.2.2.keep h) (hqa.2.2.2.2.keep h)
       rw [<- HF.out.t1,<- hpa.1,<- hqa.1] at hcmp
       have rt:=hrt.out
       have hbl:=hck.out.bl
       have lP:=zaf p1
       have lF:=zaf f1
       clear hva1 hvb1 hpa hqa hl9
       go_wp2_with fail
       refine wp_region_held_drew (S:=(fun w' => (w'.cell? ⟨w.heap.size,1,none⟩ = some (.slice ta tl tc) /\ w'.cell? ⟨w.heap.size + 1 + 1 + 1,a,none⟩ = some (.slice pa pl pc) /\ w'.cell? ⟨w.heap.size + 1 + 1 + 1,b,none⟩ = some (.slice qa ql qc)) /\ w'.rangeAt w7.heap.size 0 (tabC T))) (by kernel_rfl) ⟨⟨f1,p1,p2⟩,rt⟩ (fun hH => ?_)
       refine wpAnyH_take (i:=0) (v:=?_) rfl (by kernel_rfl) (by kernel_rfl) (by kernel_rfl) (fun _ _ _ h => h) (Or.inl ⟨by rfl,?_⟩) hH ?_
       rotate_left
       ·intro w' hS';obtain ⟨⟨hk1,hk2,hk3⟩,hk4⟩:=hS';clear hk4;go_simp <;> (try with_reducible rfl)
       simp only [Act.put,List.setIfInBounds_toArray,List.set_cons_zero,List.set_cons_succ,List.getElem_toArray,List.getElem_cons_zero,List.getElem_cons_succ]
       refine wpAnyH_take (i:=1) (v:=?_) rfl (by kernel_rfl) (by kernel_rfl) (by kernel_rfl) (fun _ _ _ h => h) (Or.inl ⟨by rfl,?_⟩) hH ?_
       rotate_left
       ·intro w' hS';obtain ⟨⟨hk1,hk2,hk3⟩,hk4⟩:=hS';clear hk4;go_simp <;> (try with_reducible rfl)
       simp only [Act.put,List.setIfInBounds_toArray,List.set_cons_zero,List.set_cons_succ,List.getElem_toArray,List.getElem_cons_zero,List.getElem_cons_succ]
       refine wpAnyH_take (i:=2) (v:=.agg (tabC T).toArray) rfl (by kernel_rfl) (by kernel_rfl) (by kernel_rfl) (fun _ _ _ h => h) (yieldsIf_load_mid (by rfl) _ _ rfl _ _ rfl _ _ (fun w' h => h.2) Tryz.underlying101 rfl it) hH ?_
       simp only [Act.put,List.setIfInBounds_toArray,List.set_cons_zero,List.set_cons_succ,List.getElem_toArray,List.getElem_cons_zero,List.getElem_cons_succ]
       refine wpAnyH_take (i:=3) (v:=?_) rfl (by kernel_rfl) (by kernel_rfl) (by kernel_rfl) (fun _ _ _ h => h) (Or.inl ⟨by rfl,?_⟩) hH ?_
       rotate_left
       ·intro w' hS';obtain ⟨⟨hk1,hk2,hk3⟩,hk4⟩:=hS';clear hk4;go_simp <;> (try with_reducible rfl)
       simp only [Act.put,List.setIfInBounds_toArray,List.set_cons_zero,List.set_cons_succ,List.getElem_toArray,List.getElem_cons_zero,List.getElem_cons_succ]
       refine wpAnyH_take (i:=4) (v:=?_) rfl (by kernel_rfl) (by kernel_rfl) (by kernel_rfl) (fun _ _ _ h => h) (Or.inl ⟨by rfl,?_⟩) hH ?_
       rotate_left
       ·intro w' hS';obtain ⟨⟨hk1,hk2,hk3⟩,hk4⟩:=hS';clear hk4;go_simp <;> (try with_reducible rfl)
       simp only [Act.put,List.setIfInBounds_toArray,List.set_cons_zero,List.set_cons_succ,List.getElem_toArray,List.getElem_cons_zero,List.getElem_cons_succ]
       refine wpAnyH_take (i:=5) (v:=?_) rfl (by kernel_rfl) (by kernel_rfl) (by kernel_rfl) (fun _ _ _ h => h) (Or.inl ⟨by rfl,?_⟩) hH ?_
       rotate_left
       ·intro w' hS';obtain ⟨⟨hk1,hk2,hk3⟩,hk4⟩:=hS';clear hk4;go_simp <;> (try with_reducible rfl)
       simp only [Act.put,List.setIfInBounds_toArray,List.set_cons_zero,List.set_cons_succ,List.getElem_toArray,List.getElem_cons_zero,List.getElem_cons_succ]
       refine wpAnyH_take (i:=6) (v:=?_) rfl (by kernel_rfl) (by kernel_rfl) (by kernel_rfl) (fun _ _ _ h => h) (Or.inl ⟨by rfl,?_⟩) hH ?_
       rotate_left
       ·intro w' hS';obtain ⟨⟨hk1,hk2,hk3⟩,hk4⟩:=hS';clear hk4;go_simp <;> (try with_reducible rfl)
       simp only [Act.put,List.setIfInBounds_toArray,List.set_cons_zero,List.set_cons_succ,List.getElem_toArray,List.getElem_cons_zero,List.getElem_cons_succ]
       refine wpAnyH_take (i:=7) (v:=?_) rfl (by kernel_rfl) (by kernel_rfl) (by kernel_rfl) (fun _ _ _ h => h) (Or.inl ⟨by rfl,?_⟩) hH ?_
       rotate_left
       ·intro w' hS';obtain ⟨⟨hk1,hk2,hk3⟩,hk4⟩:=hS';clear hk4;go_simp <;> (try with_reducible rfl)
       simp only [Act.put,List.setIfInBounds_toArray,List.set_cons_zero,List.set_cons_succ,List.getElem_toArray,List.getElem_cons_zero,List.getElem_cons_succ]
       refine wpAnyH_take (i:=8) (v:=?_) rfl (by kernel_rfl) (by kernel_rfl) (by kernel_rfl) (fun _ _ _ h => h) (Or.inl ⟨by rfl,?_⟩) hH ?_
       rotate_left
       ·intro w' hS';obtain ⟨⟨hk1,hk2,hk3⟩,hk4⟩:=hS';clear hk4;go_simp <;> (try with_reducible rfl)
       simp only [Act.put,List.setIfInBounds_toArray,List.set_cons_zero,List.set_cons_succ,List.getElem_toArray,List.getElem_cons_zero,List.getElem_cons_succ]
       refine wpAnyH_ready (rs:=[9]) (by kernel_rfl) (by simp) ?_
       refine AllReadyH.cons rfl (fun K hK => ?_) AllReadyH.nil
       go_simp
       refine (hcmp _ hbl.drew).mono ?_
       rintro e w9 ⟨rfl,hb9⟩
       go_wp2_with fail
       refine hK.out _ _ ⟨⟨zaa hb9 hH.1.1,zaa hb9 hH.1.2.1,zaa hb9 hH.1.2.2⟩,zag hb9 hH.2⟩ (fun hH2 => ?_)
       clear hK K
       replace hH:=hH2
       (try simp only [Act.put,List.setIfInBounds_toArray,List.set_cons_zero,List.set_cons_succ,List.getElem_toArray,List.getElem_cons_zero,List.getElem_cons_succ])
       refine wpAnyH_take (i:=10) (v:=?_) rfl (by kernel_rfl) (by kernel_rfl) (by kernel_rfl) (fun _ _ _ h => h) (Or.inl ⟨by rfl,?_⟩) hH ?_
       rotate_left
       ·intro w' hS';obtain ⟨⟨hk1,hk2,hk3⟩,hk4⟩:=hS';clear hk4;go_simp <;> (try with_reducible rfl)
       simp only [Act.put,List.setIfInBounds_toArray,List.set_cons_zero,List.set_cons_succ,List.getElem_toArray,List.getElem_cons_zero,List.getElem_cons_succ]
       refine wpAnyH_take (i:=11) (v:=?_) rfl (by kernel_rfl) (by kernel_rfl) (by kernel_rfl) (fun _ _ _ h => h) (Or.inl ⟨by rfl,?_⟩) hH ?_
       rotate_left
       ·intro w' hS';obtain ⟨⟨hk1,hk2,hk3⟩,hk4⟩:=hS';clear hk4;go_simp <;> (try with_reducible rfl)
       simp only [Act.put,List.setIfInBounds_toArray,List.set_cons_zero,List.set_cons_succ,List.getElem_toArray,List.getElem_cons_zero,List.getElem_cons_succ]
       refine wpAnyH_take (i:=12) (v:=?_) rfl (by kernel_rfl) (by kernel_rfl) (by kernel_rfl) (fun _ _ _ h => h) (Or.inl ⟨by rfl,?_⟩) hH ?_
       rotate_left
       ·intro w' hS';obtain ⟨⟨hk1,hk2,hk3⟩,hk4⟩:=hS';clear hk4;go_simp <;> (try with_reducible rfl)
       simp only [Act.put,List.setIfInBounds_toArray,List.set_cons_zero,List.set_cons_succ,List.getElem_toArray,List.getElem_cons_zero,List.getElem_cons_succ]
       refine wpAnyH_take (i:=13) (v:=?_) rfl (by kernel_rfl) (by kernel_rfl) (by kernel_rfl) (fun _ _ _ h => h) (Or.inl ⟨by rfl,?_⟩) hH ?_
       rotate_left
       ·intro w' hS';obtain ⟨⟨hk1,hk2,hk3⟩,hk4⟩:=hS';clear hk4;go_simp <;> (try with_reducible rfl)
       simp only [Act.put,List.setIfInBounds_toArray,List.set_cons_zero,List.set_cons_succ,List.getElem_toArray,List.getElem_cons_zero,List.getElem_cons_succ]
       refine wpAnyH_take (i:=14) (v:=?_) rfl (by kernel_rfl) (by kernel_rfl) (by kernel_rfl) (fun _ _ _ h => h) (Or.inl ⟨by rfl,?_⟩) hH ?_
       rotate_left
       ·intro w' hS';obtain ⟨⟨hk1,hk2,hk3⟩,hk4⟩:=hS';clear hk4;go_simp <;> (try with_reducible rfl)
       simp only [Act.put,List.setIfInBounds_toArray,List.set_cons_zero,List.set_cons_succ,List.getElem_toArray,List.getElem_cons_zero,List.getElem_cons_succ]
       refine wpAnyH_done (by kernel_rfl) ?_ _
       have k9:=hck.out.drew.keep hb9
       have k10:=k9.setC (27 + a * 9 + b) (cmpA T (plOf f a) (plOf f b))
       obtain ⟨y1,m1⟩:=k9.cellC (i:=27 + a * 9 + b) (by rw [zf9];omega)
       obtain ⟨y2,m2⟩:=k10.cellC (i:=108 + a * 9 + b) (by rw [List.length_set,zf9];omega)
       have g1:=k9.C.frozen (27 + a * 9 + b)
       have g2:=k10.C.frozen (108 + a * 9 + b)
       have hst:=zti f A F (k:=9) (q:=a * 9 + b) (by omega)
       have hAq : A (a * 9 + b) = cmpA T (plOf f a) (plOf f b):=by rw [HA.out,HT.out];show cmpA (zbd f.ss) (plOf f ((a * 9 + b) / 9)) (plOf f ((a * 9 + b) % 9)) = _;rw [show (a * 9 + b) / 9 = a by omega,show (a * 9 + b) % 9 = b by omega]
       have hFq : F (a * 9 + b) = cmpF T f.ts (plOf f a) (plOf f b):=by rw [HFF.out,HT.out];show cmpF (zbd f.ss) f.ts (plOf f ((a * 9 + b) / 9)) (plOf f ((a * 9 + b) % 9)) = _;rw [show (a * 9 + b) / 9 = a by omega,show (a * 9 + b) % 9 = b by omega]
       rw [hAq,hFq,<- Nat.add_assoc,<- Nat.add_assoc] at hst
       have k11:=k10.setC (108 + a * 9 + b) (cmpF T f.ts (plOf f a) (plOf f b))
       rw [<- hst] at k11
       have hne7 : w.heap.size + 1 + 1 ≠ w7.heap.size:=fun h => by have:=hb7.size;omega
       have r11:=zp5 (zp5 hH.2 (p:=⟨w.heap.size + 1 + 1,27 + a * 9 + b,none⟩) hne7 (.bool (cmpA T (plOf f a) (plOf f b)))) (p:=⟨w.heap.size + 1 + 1,108 + a * 9 + b,none⟩) hne7 (.bool (cmpF T f.ts (plOf f a) (plOf f b)))
       have K11:= zab k11
       have R11:= zab r11
       clear k11 r11 hst hAq hFq k9 k10 hH hck hrt
       go_wp2_with fail
       go_roundw
       case rel => exact ⟨b + 1,by omega,by go_num,K11,R11⟩
       case measure => simp [intOf];omega
      ·have hbe : b = 9:=by omega
       subst hbe
       rw [show a * 9 + 9 = (a + 1) * 9 by omega] at hck
       go_wp2_with fail
       go_roundw
       case rel => exact ⟨a + 1,by omega,by go_num,hck,hrt⟩
       case measure => simp [intOf];omega
    ·have hae : a = 9:=by omega
     subst hae
     rename World => w6
     have hk:=hck.out
     rw [show 9 * 9 = 81 from rfl,HA.out,HFF.out,zth] at hk
     obtain ⟨C,hCe⟩ : ∃ C,C = (zad f).cells:=⟨_,rfl⟩
     have hrow : RowIs w6 (w.heap.size + 1 + 1) 52 C:=by rw [hCe];exact hk.C
     have hCl : C.length = 189:=by rw [hCe];exact (zb5 f).len
     have hr6:=zbr hrow
     have ht6 : w6.there (w.heap.size + 1) 0 C.toArray.size:=by
      rw [show C.toArray.size = 189 by simpa using hCl]
      have:=zdb hk.R
      simpa using this
     have hi6 : (Tryz.prog.info? 52).map (·.size) = some C.length:=by rw [hCl];exact Tryz.infoCht
     have hi7 : (Tryz.prog.info? 52).map (·.size) = some C.toArray.size:=by rw [List.size_toArray];exact hi6
     have h16 : C.toArray.all (·.oneCell') = true:=by rw [hCe];exact zd9 _
     have hbF:=hk.bl
     have HCe:= zab hCe
     clear hCe hrow hCl hk hck hrt
     go_wp2_with (first
      | (refine wpList_load_mid (w:=w6) rfl 52 _ rfl (w.heap.size + 1 + 1) 0 rfl C _ hr6 Tryz.underlying52 rfl hi6 ?_)
      | (refine wpList_store_mid (w:=w6) rfl 52 _ _ rfl (w.heap.size + 1) 0 C.toArray rfl rfl ht6 hi7 h16 ?_))
     have hrs:=World.rangeAt_setCells_same w6 (w.heap.size + 1) 0 C (by simpa using ht6)
     refine bodyPost_ret (v:=.agg C.toArray) ?_ rfl ⟨by rw [HCe.out],below_setCells (w.heap.size + 1) (Nat.le_succ _) _ _ hbF⟩
     have hlv:=run_loadVar_mid (P:=Tryz.prog) _ (w.heap.size + 1) 0 52 C _ hrs Tryz.underlying52 rfl hi6
     simp [results,Tryz.results21,asAddr,Act.put,hlv]
end
end Go.Proofs.YtkkekopomiehlaaGreat
