import Derived.Test.YtkkekopomiehlaaGreatCSr4
import Derived.Deep.RegionLaw
set_option linter.unusedVariables false
set_option linter.unusedSimpArgs false
set_option maxHeartbeats 40000000
namespace Go.Proofs.YtkkekopomiehlaaGreat
section
set_option maxRecDepth 4000
open Go.RowKit
theorem Tryz.infoBl : (Tryz.prog.info? 4).map (fun i => (i.zero,i.size,i.bytes)) = some (some (.bool false),1,1):=by kernel_rfl
theorem Tryz.infoBls : (Tryz.prog.info? 117).map (fun i => (i.zero,i.size,i.bytes)) = some (some (.slice none 0 0),1,24):=by kernel_rfl
def matF (F : Nat -> Nat -> Bool) (n : Nat) : List (List Bool):=(List.range n).map fun i => (List.range n).map (F i)
def zcl (F : Nat -> Bool) (n j : Nat) : List Bool:=(List.range n).map fun k => decide (k < j) && F k
theorem ze1 (F : Nat -> Bool) (n j : Nat) : (zcl F n j).length = n:=by simp [zcl]
theorem zyc (F : Nat -> Bool) (n : Nat) : zcl F n 0 = List.replicate n false:=by
 apply List.ext_getElem?
 intro k
 by_cases hk : k < n
 ·rw [zcl,List.getElem?_map,List.getElem?_range hk,List.getElem?_replicate,if_pos hk];simp
 ·rw [List.getElem?_eq_none (by rw [ze1];omega),List.getElem?_eq_none (by simp;omega)]
theorem zyb (F : Nat -> Bool) {n j : Nat} (hj : j < n) : zcl F n (j + 1) = (zcl F n j).set j (F j):=by
 apply List.ext_getElem?
 intro k
 by_cases hk : k < n
 ·rw [List.getElem?_set]
  by_cases hkj : j = k
  ·subst hkj;rw [if_pos rfl,if_pos (by rw [ze1];exact hj),zcl,List.getElem?_map,List.getElem?_range hk];simp
  ·rw [if_neg hkj,zcl,zcl,List.getElem?_map,List.getElem?_map,List.getElem?_range hk]
   simp only [Option.map_some,Option.some.injEq]
   by_cases h : k < j
   ·simp [h,show k < j + 1 by omega]
   ·simp [h,show ¬ k < j + 1 by omega]
 ·rw [List.getElem?_eq_none (by rw [ze1];omega),List.getElem?_eq_none (by rw [List.length_set,ze1];omega)]
theorem zya (F : Nat -> Bool) (n : Nat) : zcl F n n = (List.range n).map F:=by
 unfold zcl
 refine List.map_congr_left fun k hk => ?_
 have:=List.mem_range.1 hk
 simp [this]
def Rows9 (w : World) (B : Nat) (bs : List Nat) (M : List (List Bool)) : Prop:=bs.length = M.length /\ ∀ (i b : Nat) (r : List Bool),bs[i]? = some b -> M[i]? = some r -> B <= b /\ RowIs w b 4 (r.map .bool)
theorem Rows9.keep {w w' : World} {B : Nat} {bs : List Nat} {M : List (List Bool)} (h : Rows9 w B bs M) (hk : ∀ b cs,B <= b -> RowIs w b 4 cs -> RowIs w' b 4 cs) : Rows9 w' B bs M :=
 ⟨h.1,fun i b r hb hr => ⟨(h.2 i b r hb hr).1,hk _ _ (h.2 i b r hb hr).1 (h.2 i b r hb hr).2⟩⟩
theorem Rows9.snoc {w : World} {B : Nat} {bs : List Nat} {M : List (List Bool)} (h : Rows9 w B bs M) {b : Nat} {r : List Bool} (hb : B <= b) (hr : RowIs w b 4 (r.map .bool)) : Rows9 w B (bs ++ [b]) (M ++ [r]):=by
 refine ⟨by simp [h.1],fun i b' r' h1 h2 => ?_⟩
 by_cases hl : i < bs.length
 ·rw [List.getElem?_append_left hl] at h1
  rw [List.getElem?_append_left (by rw [<- h.1];exact hl)] at h2
  exact h.2 i b' r' h1 h2
 ·have:=(List.getElem?_eq_some_iff.1 h1).1
  rw [List.length_append,List.length_singleton] at this
  have hi : i = bs.length:=by omega
  subst hi
  rw [List.getElem?_append_right (Nat.le_refl _),Nat.sub_self] at h1
  rw [List.getElem?_append_right (by rw [h.1];exact Nat.le_refl _),h.1,Nat.sub_self] at h2
  simp at h1 h2
  subst h1 h2
  exact ⟨hb,hr⟩
def slC (n : Nat) (bs : List Nat) : List Value:=bs.map fun b => .slice (some ⟨b,0,none⟩) n n
theorem zoq {S : Nat -> Prop} {w : World} {base B n m : Nat} {vf : Value} {bs : List Nat} {M : List (List Bool)} (hown : w.ownsRow base 117 1 vf n (slC m bs)) (hrows : Rows9 w B bs M) (hM : ∀ r ∈ M,r.length = m) (hlen : M.length = n) (hS : ∀ k,vf.ownBlock = some k -> S k) (hS2 : ∀ b ∈ bs,S b) : ∃ (fa : Option Addr) (fc : Nat),vf = .slice fa n fc /\ MatS S w fa M:=by
 have hown0:=hown
 obtain ⟨hl,h | ⟨g',cap',cur,hv',hb,hh,hc,hm,hs,ht'⟩⟩:=hown
 ·obtain ⟨h,h0⟩:=h
  have hn0 : n = 0:=by simpa using h0
  subst hn0
  refine ⟨none,0,h,fun i r hi => ?_⟩
  rw [List.length_eq_zero_iff.1 hlen] at hi
  simp at hi
 ·refine ⟨some ⟨g',0,none⟩,cap',hv',fun i r hi => ?_⟩
  have hil:=(List.getElem?_eq_some_iff.1 hi).1
  obtain ⟨b,hbi⟩ : ∃ b,bs[i]? = some b:=⟨bs[i]'(by rw [hrows.1];exact hil),List.getElem?_eq_getElem (by rw [hrows.1];exact hil)⟩
  obtain ⟨_,hr⟩:=hrows.2 i b r hbi hi
  subst hv'
  refine ⟨g',0,b,m,hS g' rfl,hS2 b (List.mem_of_getElem? hbi),rfl,?_,fun j x hj => hr.cell (by rw [List.getElem?_map,hj];rfl)⟩
  rw [hM r (List.mem_of_getElem? hi),Nat.zero_add]
  exact zaq hown0 (by rw [slC,List.getElem?_map,hbi];rfl)
theorem zwb {es ks : List Nat} {e k : Nat} (h : (es ++ ks).Nodup) (he : ∀ b ∈ es ++ ks,b < e) (hk : e < k) : ((es ++ [e]) ++ (ks ++ [k])).Nodup:=by
 rw [List.nodup_append] at h ⊢
 obtain ⟨h1,h2,h3⟩:=h
 refine ⟨?_,?_,fun a ha b hb => ?_⟩
 ·rw [List.nodup_append]
  exact ⟨h1,by simp,fun a ha b hb => by have:=he a (by simp [ha]);simp at hb;omega⟩
 ·rw [List.nodup_append]
  exact ⟨h2,by simp,fun a ha b hb => by have:=he a (by simp [ha]);simp at hb;omega⟩
 ·simp at ha hb
  rcases ha with ha | ha <;> rcases hb with hb | hb
  ·exact h3 a ha b hb
  ·have:=he a (by simp [ha]);omega
  ·have:=he b (by simp [hb]);omega
  ·omega
theorem zhx (w : World) (o : Obj) : (w.alloc o).heap[w.heap.size]? = some o:=by show (w.heap.push o)[w.heap.size]? = some o;simp
theorem bxx (w : World) (o o2 : Obj) : Below w.heap.size w ((w.alloc o).alloc o2):=((Below.refl _ _).alloc (Nat.le_refl _) _).alloc (by simp) _
theorem zn8 (w : World) (o1 o2 : Obj) : ((w.alloc o1).alloc o2).heap[w.heap.size + 1]? = some o2:=by
 have:=zhx (w.alloc o1) o2
 rw [za2] at this;exact this
theorem zop (n : Nat) : madeCells (Value.bool false).cells n = ((List.replicate n false).map Value.bool).toArray:=by
 have:=toList_madeCells_one (Value.bool false) n
 rw [List.map_replicate,<- this];rfl
theorem zlm (n : Nat) (a b : List Nat) : slC n (a ++ b) = slC n a ++ slC n b:=by simp [slC]
def plN (p : Nat × Nat) : Nat:=p.1 * 3 + p.2
def mG (E : List (List Bool)) (x y : Nat) : Bool:=(E.getD x []).getD y false
def Mto (L : List (Nat × Nat)) (H : Nat -> Nat -> Bool) (i j : Nat) (E : List (List Bool)) : Prop:=(E.length = 9 /\ ∀ r ∈ E,r.length = 9) /\ ∀ i' j' p q,L[i']? = some p -> L[j']? = some q -> i' < i \/ (i' = i /\ j' < j) -> mG E (plN p) (plN q) = H (plN p) (plN q)
def Mok (L : List (Nat × Nat)) (H : Nat -> Nat -> Bool) (E : List (List Bool)) : Prop:=(E.length = 9 /\ ∀ r ∈ E,r.length = 9) /\ ∀ p q,p ∈ L -> q ∈ L -> mG E (plN p) (plN q) = H (plN p) (plN q)
theorem Mto.ok {L : List (Nat × Nat)} {H : Nat -> Nat -> Bool} {E : List (List Bool)} (h : Mto L H L.length 0 E) : Mok L H E:=⟨h.1,fun p q hp hq => by
 obtain ⟨i,hi⟩:=List.getElem?_of_mem hp
 obtain ⟨j,hj⟩:=List.getElem?_of_mem hq
 exact h.2 i j p q hi hj (.inl (List.getElem?_eq_some_iff.1 hi).1)⟩
theorem Mto.row {L : List (Nat × Nat)} {H : Nat -> Nat -> Bool} {i : Nat} {E : List (List Bool)} (h : Mto L H i L.length E) : Mto L H (i + 1) 0 E:=⟨h.1,fun i' j' p q hp hq hlt => h.2 i' j' p q hp hq (by
 have:=(List.getElem?_eq_some_iff.1 hq).1
 rcases hlt with h | h <;> omega)⟩
def mSet (E : List (List Bool)) (x y : Nat) (v : Bool) : List (List Bool):=E.set x ((E.getD x []).set y v)
theorem zvq {E : List (List Bool)} {x y x' y' : Nat} {v : Bool} (hE : E.length = 9) (hr : ∀ r ∈ E,r.length = 9) (hx : x < 9) (hy : y < 9) : mG (mSet E x y v) x' y' = if x = x' /\ y = y' then v else mG E x' y':=by
 unfold mG mSet
 have hl : (E.getD x []).length = 9:=by rw [List.getD,List.getElem?_eq_getElem (by omega)];exact hr _ (List.getElem_mem _)
 by_cases h1 : x = x'
 ·subst h1
  rw [show (E.set x ((E.getD x []).set y v)).getD x [] = (E.getD x []).set y v by rw [List.getD,List.getElem?_set,if_pos rfl,if_pos (by omega)];rfl]
  rw [List.getD,List.getElem?_set]
  by_cases h2 : y = y'
  ·rw [if_pos h2,if_pos (by omega),if_pos ⟨rfl,h2⟩];rfl
  ·rw [if_neg h2,if_neg (fun h => h2 h.2)];rfl
 ·rw [if_neg (fun h => h1 h.1)]
  congr 1
  rw [List.getD,List.getElem?_set,if_neg h1];rfl
theorem Mto.step {L : List (Nat × Nat)} {H : Nat -> Nat -> Bool} {i j : Nat} {E : List (List Bool)} (h : Mto L H i j E) {p q : Nat × Nat} (hp : L[i]? = some p) (hq : L[j]? = some q) (hx : plN p < 9) (hy : plN q < 9) : Mto L H i (j + 1) (mSet E (plN p) (plN q) (H (plN p) (plN q))):=by
 refine ⟨⟨by simp [mSet,h.1.1],fun r hr => ?_⟩,fun i' j' p' q' hp' hq' hlt => ?_⟩
 ·rcases List.mem_or_eq_of_mem_set hr with h' | h'
  ·exact h.1.2 r h'
  ·rw [h',List.length_set,List.getD,List.getElem?_eq_getElem (by rw [h.1.1];exact hx)];exact h.1.2 _ (List.getElem_mem _)
 ·rw [zvq h.1.1 h.1.2 hx hy]
  by_cases hc : plN p = plN p' /\ plN q = plN q'
  ·rw [if_pos hc,hc.1,hc.2]
  ·rw [if_neg hc]
   refine h.2 i' j' p' q' hp' hq' ?_
   rcases hlt with h' | ⟨h1,h2⟩
   ·exact .inl h'
   ·by_cases hj : j' = j
    ·subst h1;subst hj
     rw [hp] at hp';rw [hq] at hq'
     cases hp';cases hq'
     exact absurd ⟨rfl,rfl⟩ hc
    ·exact .inr ⟨h1,by omega⟩
def MatR (w : World) (bs : List Nat) (M : List (List Bool)) : Prop:=bs.length = 9 /\ (M.length = 9 /\ ∀ r ∈ M,r.length = 9) /\ ∀ (i b : Nat) (r : List Bool),bs[i]? = some b -> M[i]? = some r -> RowIs w b 4 (r.map .bool)
theorem MatR.keep {w w' : World} {bs : List Nat} {M : List (List Bool)} (h : MatR w bs M) (hk : ∀ b cs,b ∈ bs -> RowIs w b 4 cs -> RowIs w' b 4 cs) : MatR w' bs M :=
 ⟨h.1,h.2.1,fun i b r hb hr => hk _ _ (List.mem_of_getElem? hb) (h.2.2 i b r hb hr)⟩
theorem MatR.set {w : World} {bs : List Nat} {M : List (List Bool)} (h : MatR w bs M) {x y b : Nat} (v : Bool) (hb : bs[x]? = some b) (hnd : bs.Nodup) (hx : x < 9) (hy : y < 9) : MatR (w.setCell ⟨b,y,none⟩ (.bool v)) bs (mSet M x y v):=by
 have hxl : x < M.length:=by rw [h.2.1.1];exact hx
 have hg : M.getD x [] = M[x]:=by rw [List.getD,List.getElem?_eq_getElem hxl];rfl
 refine ⟨h.1,⟨by simp [mSet,h.2.1.1],fun r hr => ?_⟩,fun i b' r hb' hr => ?_⟩
 ·rcases List.mem_or_eq_of_mem_set hr with h' | h'
  ·exact h.2.1.2 r h'
  ·rw [h',List.length_set,hg];exact h.2.1.2 _ (List.getElem_mem _)
 ·unfold mSet at hr
  rw [List.getElem?_set] at hr
  by_cases hix : x = i
  ·subst hix
   rw [if_pos rfl,if_pos hxl] at hr
   cases hr
   rw [hb] at hb';cases hb'
   rw [hg,List.map_set]
   exact (h.2.2 x b _ hb (List.getElem?_eq_getElem hxl)).set y (.bool v)
  ·rw [if_neg hix] at hr
   refine (h.2.2 i b' r hb' hr).setOther (fun e => hix ?_) _
   have e' : b = b':=e
   subst e'
   exact (List.getElem?_inj (List.getElem?_eq_some_iff.1 hb).1 hnd).1 (hb.trans hb'.symm)
theorem MatR.at {w : World} {bs : List Nat} {M : List (List Bool)} (h : MatR w bs M) {base : Nat} {v : Value} (ho : w.ownsRow base 117 1 v 9 (slC 9 bs)) : ∃ (a : Option Addr) (c : Nat),v = .slice a 9 c /\ MatAt w a M:=by
 obtain ⟨fa,fc,h1,h2⟩:=zoq (S:=fun _ => True) (B:=0) ho ⟨by rw [h.1,h.2.1.1],fun i b r hb hr => ⟨Nat.zero_le _,h.2.2 i b r hb hr⟩⟩ h.2.1.2 h.2.1.1 (fun _ _ => trivial) (fun _ _ => trivial)
 exact ⟨fa,fc,h1,h2.at⟩
theorem zez {w : World} {base : Nat} {e : TypeId} {size : Nat} {v : Value} {n : Nat} {xs : List Value} (h : w.ownsRow base e size v n xs) (hn : 0 < n) : ∃ g c,v = .slice (some ⟨g,0,none⟩) n c:=by
 obtain ⟨hl,h | ⟨g',cap',cur,hv',hb,hh,hc,hm,hs,ht'⟩⟩:=h
 ·obtain ⟨_,h0⟩:=h
  have : n = 0:=by simpa using h0
  omega
 ·exact ⟨g',cap',hv'⟩
structure Lk (w5 W0 : World) (gV gE cE gK cK gL cL n B H8 : Nat) (vs : List Value) (es ks : List Nat) (L : List (Nat × Nat)) (wr : World) (E K : List (List Bool)) : Prop where
 V : RowIs wr gV 116 vs
 oE : wr.ownsRow w5.heap.size 117 1 (.slice (some ⟨gE,0,none⟩) 9 cE) 9 (slC 9 es)
 oK : wr.ownsRow w5.heap.size 117 1 (.slice (some ⟨gK,0,none⟩) 9 cK) 9 (slC 9 ks)
 oL : wr.ownsRow H8 64 2 (.slice (some ⟨gL,0,none⟩) n cL) n (prC L)
 mE : MatR wr es E
 mK : MatR wr ks K
 nd : (es ++ ks).Nodup
 lo : ∀ b ∈ es ++ ks,w5.heap.size <= b
 kb : KeptBut gV w5 wr
 bl : Below B W0 wr
 le : B <= w5.heap.size
theorem Lk.keep {w5 W0 : World} {gV gE cE gK cK gL cL n B H8 : Nat} {vs : List Value} {es ks : List Nat} {L : List (Nat × Nat)} {wr wr' : World} {E K : List (List Bool)} (h : Lk w5 W0 gV gE cE gK cK gL cL n B H8 vs es ks L wr E K) (hb : Below wr.heap.size wr wr') : Lk w5 W0 gV gE cE gK cK gL cL n B H8 vs es ks L wr' E K :=
 ⟨h.V.keep hb,zbc h.oE hb,zbc h.oK hb,zbc h.oL hb,h.mE.keep (fun _ _ _ r => r.keep hb),h.mK.keep (fun _ _ _ r => r.keep hb),h.nd,h.lo,h.kb.below hb,h.bl.trans (hb.mono (Nat.le_trans h.le h.kb.size)),h.le⟩
theorem Lk.drew {w5 W0 : World} {gV gE cE gK cK gL cL n B H8 : Nat} {vs : List Value} {es ks : List Nat} {L : List (Nat × Nat)} {wr : World} {E K : List (List Bool)} (h : Lk w5 W0 gV gE cE gK cK gL cL n B H8 vs es ks L wr E K) : Lk w5 W0 gV gE cE gK cK gL cL n B H8 vs es ks L wr.drew E K :=
 ⟨h.V,h.oE.drew,h.oK.drew,h.oL.drew,h.mE,h.mK,h.nd,h.lo,⟨h.kb.size,h.kb.block⟩,h.bl.drew,h.le⟩
theorem MatR.row {w : World} {bs : List Nat} {M : List (List Bool)} (h : MatR w bs M) {b : Nat} (hb : b ∈ bs) : ∃ cs,RowIs w b 4 cs:=by
 obtain ⟨i,hi⟩:=List.getElem?_of_mem hb
 have hil:=(List.getElem?_eq_some_iff.1 hi).1
 obtain ⟨r,hr⟩ : ∃ r,M[i]? = some r:=⟨M[i]'(by rw [h.2.1.1,<- h.1];exact hil),List.getElem?_eq_getElem _⟩
 exact ⟨_,h.2.2 i b r hi hr⟩
theorem Lk.setE {w5 W0 : World} {gV gE cE gK cK gL cL n B H8 : Nat} {vs : List Value} {es ks : List Nat} {L : List (Nat × Nat)} {wr : World} {E K : List (List Bool)} (h : Lk w5 W0 gV gE cE gK cK gL cL n B H8 vs es ks L wr E K) {x y b : Nat} (v : Bool) (hb : es[x]? = some b) (hx : x < 9) (hy : y < 9) : Lk w5 W0 gV gE cE gK cK gL cL n B H8 vs es ks L (wr.setCell ⟨b,y,none⟩ (.bool v)) (mSet E x y v) K:=by
 have hm : b ∈ es:=List.mem_of_getElem? hb
 obtain ⟨cs,hr⟩:=h.mE.row hm
 have hn:=h.nd
 rw [List.nodup_append] at hn
 have hlo:=h.lo b (by simp [hm])
 exact ⟨h.V.setOther (by show b ≠ gV;exact fun e => (h.V.ne hr (by decide)) e.symm) _,ownsRow_setCell_other h.oE (zcd h.oE hr (by decide)) _,ownsRow_setCell_other h.oK (zcd h.oK hr (by decide)) _,ownsRow_setCell_other h.oL (zcd h.oL hr (by decide)) _,h.mE.set v hb hn.1 hx hy,
  h.mK.keep (fun b' _ hb' r => r.setOther (by show b ≠ b';exact hn.2.2 b hm b' hb') _),h.nd,h.lo,h.kb.set (.inr hlo) _,h.bl.setCell (Nat.le_trans h.le hlo) _,h.le⟩
theorem Lk.setK {w5 W0 : World} {gV gE cE gK cK gL cL n B H8 : Nat} {vs : List Value} {es ks : List Nat} {L : List (Nat × Nat)} {wr : World} {E K : List (List Bool)} (h : Lk w5 W0 gV gE cE gK cK gL cL n B H8 vs es ks L wr E K) {x y b : Nat} (v : Bool) (hb : ks[x]? = some b) (hx : x < 9) (hy : y < 9) : Lk w5 W0 gV gE cE gK cK gL cL n B H8 vs es ks L (wr.setCell ⟨b,y,none⟩ (.bool v)) E (mSet K x y v):=by
 have hm : b ∈ ks:=List.mem_of_getElem? hb
 obtain ⟨cs,hr⟩:=h.mK.row hm
 have hn:=h.nd
 rw [List.nodup_append] at hn
 have hlo:=h.lo b (by simp [hm])
 exact ⟨h.V.setOther (by show b ≠ gV;exact fun e => (h.V.ne hr (by decide)) e.symm) _,ownsRow_setCell_other h.oE (zcd h.oE hr (by decide)) _,ownsRow_setCell_other h.oK (zcd h.oK hr (by decide)) _,ownsRow_setCell_other h.oL (zcd h.oL hr (by decide)) _,
  h.mE.keep (fun b' _ hb' r => r.setOther (by show b ≠ b';exact fun e => hn.2.2 b' hb' b hm e.symm) _),h.mK.set v hb hn.2.1 hx hy,h.nd,h.lo,h.kb.set (.inr hlo) _,h.bl.setCell (Nat.le_trans h.le hlo) _,h.le⟩
theorem zr9 {w : World} {es : List Nat} (h9 : es.length = 9) (h : ∀ b ∈ es,RowIs w b 4 ((List.replicate 9 false).map .bool)) : MatR w es (List.replicate 9 (List.replicate 9 false)):=by
 refine ⟨h9,⟨by simp,fun r hr => by rw [List.eq_of_mem_replicate hr];simp⟩,fun i b r hb hr => ?_⟩
 rw [List.getElem?_replicate] at hr
 split at hr
 ·cases hr;exact h b (List.mem_of_getElem? hb)
 ·cases hr
theorem zqh {vs : List SvcD} (hr : ∀ v ∈ vs,v.rels.length <= 3) (s : Nat) : rlen vs s <= 3:=by
 unfold rlen
 split
 ·rename_i v hv;exact hr v (List.mem_of_getElem? hv)
 ·omega
theorem zp1 {vs : List SvcD} (h3 : vs.length <= 3) (hr : ∀ v ∈ vs,v.rels.length <= 3) : (prs vs).length <= 9:=by
 have : ∀ s,(zb4 vs s).length <= 3 * s:=fun s => by
  induction s with
  | zero => simp [zb4]
  | succ s ih =>
   have:=zqh hr s
   rw [zlc,List.length_append,zfo,List.length_map,List.length_range];omega
 have:=this vs.length
 unfold prs;omega
theorem zik {vs : List SvcD} (h3 : vs.length <= 3) (hr : ∀ v ∈ vs,v.rels.length <= 3) {p : Nat × Nat} (hp : p ∈ prs vs) : p.1 < 3 /\ p.2 < 3:=by
 unfold prs zb4 at hp
 obtain ⟨s,hs,hm⟩:=List.mem_flatMap.1 hp
 have hs:=List.mem_range.1 hs
 obtain ⟨r,hr',rfl⟩:=List.mem_map.1 hm
 have hr':=List.mem_range.1 hr'
 refine ⟨by show s < 3;omega,?_⟩
 show r < 3
 unfold rlen at hr'
 rw [List.getElem?_eq_getElem hs] at hr'
 have:=hr _ (List.getElem_mem hs)
 simp only at hr'
 omega
theorem Lk.vw {w5 W0 : World} {gV gE cE gK cK gL cL n B H8 : Nat} {sa ta va fa : Option Addr} {sl sc tl tc vl vc fc : Nat} {vs : List Value} {es ks : List Nat} {L : List (Nat × Nat)} {wr : World} {E K M : List (List Bool)} {f : zae} (h : Lk w5 W0 gV gE cE gK cK gL cL n B H8 (.slice sa sl sc :: .slice ta tl tc :: .slice va vl vc :: .slice fa sl fc :: vs) es ks L wr E K) (hf : FleetAt wr sa sl sc ta tl tc va vl vc f) (hs : sl = f.ss.length) (hM : MatS (fun b => b ≠ gV) w5 fa M) : VwAt wr gV sa sl sc ta tl tc va vl vc fa fc f M :=
 ⟨hf,h.V.cell rfl,h.V.cell rfl,h.V.cell rfl,by rw [<- hs];exact h.V.cell rfl,(hM.keep (fun b o v hS hc => h.kb.cell hS hc)).at⟩
theorem zqx {n : Nat} {bs : List Nat} {i b : Nat} (h : bs[i]? = some b) : (slC n bs)[i]? = some (.slice (some ⟨b,0,none⟩) n n):=by rw [slC,List.getElem?_map,h];rfl
theorem zvp (f : zae) (sa ta va : Option Addr) (sl sc tl tc vl vc : Nat) (w : World) (hf : FleetAt w sa sl sc ta tl tc va vl vc f) (h8 : f.ss.length <= 8) (h3 : f.vs.length <= 3) (hr3 : ∀ v ∈ f.vs,v.rels.length <= 3)
  (F : Nat -> Nat -> Bool) (G : Bool -> Nat -> Nat -> Bool) (hfit : ∀ (i j : Nat) (s t : ByteArray),f.ss[i]? = some s -> f.ss[j]? = some t -> ∀ W,Calls Tryz.prog 56 #[.string s,.string t] W fun e W' => e = .returned (.int .i64 (if F i j = true then 0 else 7)) /\ Below W.heap.size W W')
  (hL0 : 0 < (prs f.vs).length)
  (hmeet : ∀ (p q : Nat × Nat) (kept : Bool) (W : World) (g : Nat) (fa : Option Addr) (fc : Nat),p ∈ prs f.vs -> q ∈ prs f.vs -> VwAt W g sa sl sc ta tl tc va vl vc fa fc f (matF F f.ss.length) -> Calls Tryz.prog 59 #[.pointer (some ⟨g,0,none⟩),.agg #[.int .i64 p.1,.int .i64 p.2],.agg #[.int .i64 q.1,.int .i64 q.2],.bool kept] W fun e W' => e = .returned (.bool (G kept (plN p) (plN q))) /\ Below W.heap.size W W') :
  Calls Tryz.prog 30 #[.agg #[.slice sa sl sc,.slice ta tl tc,.slice va vl vc]] w fun e W => ∃ (g : Nat) (fa ea ka : Option Addr) (fc ec kc : Nat) (E K : List (List Bool)),e = .returned (.pointer (some ⟨g,0,none⟩)) /\ VwAt W g sa sl sc ta tl tc va vl vc fa fc f (matF F f.ss.length) /\ W.cell? ⟨g,4,none⟩ = some (.slice ea 9 ec) /\ W.cell? ⟨g,5,none⟩ = some (.slice ka 9 kc) /\ MatAt W ea E /\ MatAt W ka K /\ Mok (prs f.vs) (G false) E /\ Mok (prs f.vs) (G true) K /\ Below w.heap.size w W:=by
 have s1:=hf.s1
 have S4:= zab hf.s4
 have HF:= zab hf
 obtain ⟨bi,hbi,bz,bz1,bz2⟩:=info_parts Tryz.infoBl
 obtain ⟨li,hli,lz,lz1,lz2⟩:=info_parts Tryz.infoBls
 obtain ⟨n,hn⟩ : ∃ n,n = f.ss.length:=⟨_,rfl⟩
 rw [<- hn] at s1 h8
 subst s1
 have hmk:=fun W => run_makeSlice (P:=Tryz.prog) (w:=W) 117 4 bi _ Tryz.underlying117 hbi bz .i64 .i64 (sl : Int) (sl : Int) (by omega) (Int.le_refl _) (by rw [bz1];omega) (by rw [bz2];omega) (by omega)
 rw [bz1,Int.toNat_natCast,Nat.mul_one,zop] at hmk
 obtain ⟨Z,hZ⟩ : ∃ Z,Z = ((List.replicate sl false).map Value.bool).toArray:=⟨_,rfl⟩
 rw [<- hZ] at hmk
 have HZ:= zab hZ
 clear hZ
 have hmk9:=fun W => run_makeSlice (P:=Tryz.prog) (w:=W) 117 4 bi _ Tryz.underlying117 hbi bz .i64 .i64 9 9 (by omega) (Int.le_refl _) (by rw [bz1];omega) (by rw [bz2];omega) (by omega)
 rw [bz1,show (9 : Int).toNat = 9 from rfl,Nat.mul_one,zop] at hmk9
 obtain ⟨Z9,hZ9⟩ : ∃ Z,Z = ((List.replicate 9 false).map Value.bool).toArray:=⟨_,rfl⟩
 rw [<- hZ9] at hmk9
 have HZ9:= zab hZ9
 clear hZ9
 have hB0:=bel1 w (.cells #[.slice sa sl sc,.slice ta tl tc,.slice va vl vc] 26)
 have e0:=box3 w (.slice sa sl sc) (.slice ta tl tc) (.slice va vl vc) 26
 have HN:= zab hn
 have HFIT:= zab hfit
 have HMEET:= zab hmeet
 have HR3:= zab hr3
 clear hf hn hfit hmeet hr3
 go_enter Tryz.func30,Tryz.ntmps30
 go_wp2_with fail
 go_loopw [4] (fun vi wr => ∃ (i : Nat) (vf : Value) (bs : List Nat),i <= sl /\ vi = .int .i64 i /\ RowIs wr (w.heap.size + 1) 116 [.slice sa sl sc,.slice ta tl tc,.slice va vl vc,vf,.slice none 0 0,.slice none 0 0] /\ wr.ownsRow (w.heap.size + 2) 117 1 vf i (slC sl bs) /\ Rows9 wr (w.heap.size + 2) bs ((List.range i).map fun i => (List.range sl).map (F i)) /\ Below (w.heap.size + 1) (w.alloc (.cells #[.slice sa sl sc,.slice ta tl tc,.slice va vl vc] 26)) wr) (fun i _ => sl - (intOf i).toNat)
 case atStart =>
  refine ⟨0,.slice none 0 0,[],Nat.zero_le _,rfl,?_,World.ownsRow_nil _ _ _ _,⟨rfl,fun i b r h => by simp at h⟩,(Below.refl _ _).alloc (by simp) _⟩
  exact zn8 w _ _
 case round =>
  obtain ⟨i,vf,bs,hi,rfl,hV,hown,hrows,hb⟩:=hrel
  rename World => w5
  obtain ⟨f0,f1,f2⟩:=zak (hb.mono (by simp)) e0
  have hfl : w.heap.size < w5.heap.size:=zaf f0
  have z5:=hb.size
  rw [za2] at z5
  have hx0 := znn i
  have hVl:=hV.lt
  by_cases hlt : i < sl
  ·obtain ⟨s,hsi⟩ : ∃ s,f.ss[i]? = some s:=⟨f.ss[i]'(by rw [<- HN.out];exact hlt),List.getElem?_eq_getElem (by rw [<- HN.out];exact hlt)⟩
   obtain ⟨b,o,rfl,c0w⟩:=S4.out i s hsi
   have hx1 : (i : Int) < (sl : Int):=by omega
   have HV:= zab hV
   have HO:= zab hown
   have HRW:= zab hrows
   have HSI:= zab hsi
   have hrb0 : RowIs (w5.alloc (.cells Z 4)) w5.heap.size 4 ((zcl (F i) sl 0).map .bool):=by rw [zyc,HZ.out];exact zhx w5 _
   have HRB:= zab hrb0
   clear hV hown hrows hsi hrb0
   go_wp2_with fail
   go_loopw [6] (fun vj wr => ∃ j : Nat,j <= sl /\ vj = .int .i64 j /\ RowIs wr w5.heap.size 4 ((zcl (F i) sl j).map .bool) /\ Below w5.heap.size w5 wr) (fun j _ => sl - (intOf j).toNat)
   case atStart => exact ⟨0,Nat.zero_le _,rfl,HRB.out,bel1 _ _⟩
   case round =>
    obtain ⟨j,hj,rfl,hrow,hbj⟩:=hrel
    obtain ⟨g0,g1,g2⟩:=zak hbj ⟨f0,f1,f2⟩
    have hbW : Below w.heap.size w wr:=hB0.trans ((hb.trans (hbj.mono (by omega))).mono (by simp))
    have hgl : w.heap.size < wr.heap.size:=zaf g0
    have hrl:=hrow.lt
    have hy0 := znn j
    by_cases hjl : j < sl
    ·obtain ⟨t,htj⟩ : ∃ t,f.ss[j]? = some t:=⟨f.ss[j]'(by rw [<- HN.out];exact hjl),List.getElem?_eq_getElem (by rw [<- HN.out];exact hjl)⟩
     obtain ⟨b',o',heq,c1w⟩:=S4.out j t htj
     obtain ⟨rfl,rfl⟩ : b = b' /\ o = o':=by cases heq;exact ⟨rfl,rfl⟩
     have c0:=zaa hbW c0w
     have c1:=zaa hbW c1w
     have hbl:=zaf c0
     have hcall:=HFIT.out i j s t HSI.out htj
     have hy1 : (j : Int) < (sl : Int):=by omega
     have hcl : wr.cell? ⟨w5.heap.size,j,none⟩ = some (.bool ((zcl (F i) sl j)[j]'(by rw [ze1];exact hjl))):=hrow.cell (by rw [List.getElem?_map,List.getElem?_eq_getElem (by rw [ze1];exact hjl)];rfl)
     have hfz:=hrow.frozen j
     generalize (zcl (F i) sl j)[j]'(by rw [ze1];exact hjl) = u at hcl
     have hst:=zyb (F i) hjl
     have HST:= zab hst
     have HROW:= zab hrow
     clear hst hrow heq htj
     cases hF : F i j with
     | true =>
      rw [hF] at hcall HST
      rw [if_pos rfl] at hcall
      go_wp2_with fail
      go_region_held3 (fun w' => (w'.cell? ⟨w.heap.size,0,none⟩ = some (.slice (some ⟨b,o,none⟩) sl sc) /\ w'.cell? ⟨w.heap.size,1,none⟩ = some (.slice ta tl tc) /\ w'.cell? ⟨w.heap.size,2,none⟩ = some (.slice va vl vc)) /\ w'.cell? ⟨b,o + i,none⟩ = some (.string s) /\ w'.cell? ⟨b,o + j,none⟩ = some (.string t)) (go_keep) (first | (go_at_call 56;refine (hcall _).mono ?_;rintro e w7 ⟨rfl,hb7⟩;have e3:=zak hb7 ⟨g0,g1,g2⟩;have e4:=zaa hb7 c0;have e5:=zaa hb7 c1;have k1:=zaa hb7 (zjs hcl);have k2:=(hb7.frozen (p:=⟨w5.heap.size,j,none⟩) (by simpa using hrl)).trans hfz))
      go_wp2_with fail
      go_roundw
      case rel =>
       have r7:=(RowIs.keep (w:=wr.drew) HROW.out hb7).set j (.bool true)
       rw [<- List.map_set,<- HST.out] at r7
       exact ⟨j + 1,by omega,by go_num,r7,(thn3 hbj.drew hb7).setCell (Nat.le_refl _) _⟩
      case measure => simp [intOf];omega
     | false =>
      rw [hF] at hcall HST
      rw [if_neg (by simp)] at hcall
      go_wp2_with fail
      go_region_held3 (fun w' => (w'.cell? ⟨w.heap.size,0,none⟩ = some (.slice (some ⟨b,o,none⟩) sl sc) /\ w'.cell? ⟨w.heap.size,1,none⟩ = some (.slice ta tl tc) /\ w'.cell? ⟨w.heap.size,2,none⟩ = some (.slice va vl vc)) /\ w'.cell? ⟨b,o + i,none⟩ = some (.string s) /\ w'.cell? ⟨b,o + j,none⟩ = some (.string t)) (go_keep) (first | (go_at_call 56;refine (hcall _).mono ?_;rintro e w7 ⟨rfl,hb7⟩;have e3:=zak hb7 ⟨g0,g1,g2⟩;have e4:=zaa hb7 c0;have e5:=zaa hb7 c1;have k1:=zaa hb7 (zjs hcl);have k2:=(hb7.frozen (p:=⟨w5.heap.size,j,none⟩) (by simpa using hrl)).trans hfz))
      go_wp2_with fail
      go_roundw
      case rel =>
       have r7:=(RowIs.keep (w:=wr.drew) HROW.out hb7).set j (.bool false)
       rw [<- List.map_set,<- HST.out] at r7
       exact ⟨j + 1,by omega,by go_num,r7,(thn3 hbj.drew hb7).setCell (Nat.le_refl _) _⟩
      case measure => simp [intOf];omega
    ·have hje : j = sl:=by omega
     subst hje
     rw [zya] at hrow
     have hV':=HV.out.keep hbj
     have hO':=zbc HO.out hbj
     have hR':=HRW.out.keep (fun b cs _ h => h.keep hbj)
     have v3 : wr.cell? ⟨w.heap.size + 1,3,none⟩ = some vf:=hV'.cell rfl
     have vfz:=hV'.frozen 3
     have hVlt:=hV'.lt
     have hz:=hbj.size
     have hVA : RowIs (wr.alloc (.cells #[.slice (some ⟨w5.heap.size,0,none⟩) j j] 117)) (w.heap.size + 1) 116 [.slice (some ⟨b,o,none⟩) j sc,.slice ta tl tc,.slice va vl vc,vf,.slice none 0 0,.slice none 0 0]:=hV'.keep (bel1 _ _)
     have hneV:=zcd (hO'.alloc (.cells #[.slice (some ⟨w5.heap.size,0,none⟩) j j] 117)) hVA (by decide)
     have HR2:= zab hR'
     have HV2:= zab hVA
     have HO2:= zab hO'
     have HROW:= zab hrow
     have vA : (wr.alloc (.cells #[.slice (some ⟨w5.heap.size,0,none⟩) j j] 117)).cell? ⟨w.heap.size + 1,3,none⟩ = some vf:=zaw _ v3
     clear hV' hO' hR' hrow hVA
     go_wp2_with (at_builtin;refine wpList_append_lies _ rfl _ _ _ rfl (w.heap.size + 2) 117 li _ 1 24 Tryz.underlying114 hli lz lz1 lz2 rfl (by omega) vf i _ rfl (HO2.out.alloc _) ⟨wr.heap.size,0,none⟩ 1 1 [.slice (some ⟨w5.heap.size,0,none⟩) j j] rfl rfl (World.news_of_block (heap_alloc_new wr _)) (by simp [Value.oneCell']) (by omega) (by unfold maxLen;omega) (by omega) (by simp;omega) (wr.heap.size + 1) (by simp) ?_;intro g' cap' w3 hown' hgrow hat hlt3;have v3c : w3.cell? ⟨w.heap.size + 1,3,none⟩ = some vf:=hgrow.cell vA (fun e => hneV e.symm);have v3f:=(HV2.out.grown hgrow hneV).frozen 3)
     have hVN:=(HV2.out.grown hgrow hneV).set 3 (.slice (some ⟨g',0,none⟩) (i + 1) cap')
     go_roundw
     case rel =>
      have hlow : ∀ k,vf.ownBlock = some k -> w.heap.size + 2 <= k /\ k < wr.heap.size:=fun k h => HO2.out.lt k h
      refine ⟨i + 1,.slice (some ⟨g',0,none⟩) (i + 1) cap',bs ++ [w5.heap.size],by omega,by go_num,hVN,?_,?_,?_⟩
      ·rw [zlm]
       exact ownsRow_setCell_below hown' (by show w.heap.size + 1 < w.heap.size + 2;omega) _
      ·rw [List.range_succ,List.map_append]
       have hne : ∀ b cs,RowIs wr b 4 cs -> RowIs (w3.setCell ⟨w.heap.size + 1,3,none⟩ (.slice (some ⟨g',0,none⟩) (i + 1) cap')) b 4 cs:=fun b cs h => by
        have h1:=h.keep (bel1 wr (.cells #[.slice (some ⟨w5.heap.size,0,none⟩) j j] 117))
        have h2:=h1.grown hgrow (zcd (HO2.out.alloc _) h1 (by decide))
        exact h2.setOther (by show w.heap.size + 1 ≠ b;exact (HV2.out.grown hgrow hneV).ne h2 (by decide)) _
       exact (HR2.out.keep (fun b cs _ h => hne b cs h)).snoc (by omega) (hne _ _ HROW.out)
      ·have hBw : Below (w.heap.size + 1) (w.alloc (.cells #[.slice (some ⟨b,o,none⟩) j sc,.slice ta tl tc,.slice va vl vc] 26)) wr:=hb.trans (hbj.mono (by omega))
       exact (Below.grown (hBw.alloc (by omega) _) hgrow (by simp;omega) (fun k hk => by have:=(hlow k hk).1;omega)).setCell (Nat.le_refl _) _
     case measure => simp [intOf];omega
  ·have hie : i = sl:=by omega
   subst hie
   obtain ⟨hVd,hVe⟩ : RowIs w5 (w.heap.size + 1) 116 [.slice sa i sc,.slice ta tl tc,.slice va vl vc,vf,.slice none 0 0,.slice none 0 0] /\ True:=⟨hV,trivial⟩
   obtain ⟨fa,fc,rfl,hfit⟩:=zoq (S:=fun b => b ≠ w.heap.size + 1) hown hrows (fun r hr => by obtain ⟨k,_,rfl⟩:=List.mem_map.1 hr;simp) (by simp) (fun k hk => by have:=(hown.lt k hk).1;omega) (fun b hb => by
    obtain ⟨k,hk⟩:=List.getElem?_of_mem hb
    have hkl:=(List.getElem?_eq_some_iff.1 hk).1
    rw [hrows.1] at hkl
    have:=(hrows.2 k b _ hk (List.getElem?_eq_getElem hkl)).1
    omega)
   have HM:= zab hfit
   have HV:= zab hV
   have HB:= zab hb
   clear hV hVd hVe hown hrows hfit
   go_wp2_with fail
   go_loopw [9] (fun vi wr => ∃ (i2 : Nat) (ve vk : Value) (es ks : List Nat),i2 <= 9 /\ vi = .int .i64 i2 /\ RowIs wr (w.heap.size + 1) 116 [.slice sa i sc,.slice ta tl tc,.slice va vl vc,.slice fa i fc,ve,vk] /\ wr.ownsRow w5.heap.size 117 1 ve i2 (slC 9 es) /\ wr.ownsRow w5.heap.size 117 1 vk i2 (slC 9 ks) /\ Hid ((ve.ownBlock = none /\ vk.ownBlock = none) \/ ve.ownBlock ≠ vk.ownBlock) /\ Hid (es.length = i2 /\ ks.length = i2 /\ (es ++ ks).Nodup) /\ Hid (∀ b ∈ es ++ ks,w5.heap.size <= b /\ RowIs wr b 4 ((List.replicate 9 false).map .bool)) /\ KeptBut (w.heap.size + 1) w5 wr /\ Below (w.heap.size + 1) (w.alloc (.cells #[.slice sa i sc,.slice ta tl tc,.slice va vl vc] 26)) wr) (fun i _ => 9 - (intOf i).toNat)
   case atStart => exact ⟨0,.slice none 0 0,.slice none 0 0,[],[],by omega,rfl,HV.out,World.ownsRow_nil _ _ _ _,World.ownsRow_nil _ _ _ _,.inl ⟨rfl,rfl⟩,⟨rfl,rfl,List.nodup_nil⟩,(fun b hb => by simp at hb),KeptBut.refl _ _,hb⟩
   case round =>
    obtain ⟨i2,ve,vk,es,ks,hi2,rfl,hV,hoE,hoK,hdis,hlen,hrw,hkb,hb2⟩:=hrel
    rename World => w6
    by_cases hlt2 : i2 < 9
    ·have hVA:=hV.keep (bxx w6 (.cells Z9 4) (.cells #[.slice (some ⟨w6.heap.size,0,none⟩) 9 9] 117))
     have ne1:=zcd hoE hV (by decide)
     have ne2:=zcd hoK hV (by decide)
     have cE : ((w6.alloc (.cells Z9 4)).alloc (.cells #[.slice (some ⟨w6.heap.size,0,none⟩) 9 9] 117)).cell? ⟨w.heap.size + 1,4,none⟩ = some ve:=hVA.cell rfl
     have cE0 : w6.cell? ⟨w.heap.size + 1,4,none⟩ = some ve:=hV.cell rfl
     have lE : ∀ k,ve.ownBlock = some k -> w5.heap.size <= k /\ k < w6.heap.size:=fun k h => hoE.lt k h
     have lK : ∀ k,vk.ownBlock = some k -> w5.heap.size <= k /\ k < w6.heap.size:=fun k h => hoK.lt k h
     have hVl6:=hV.lt
     have z6:=hkb.size
     have hnews : ∀ W : World,∀ j u,([.slice (some ⟨W.heap.size,0,none⟩) 9 9] : List Value)[j]? = some u -> ((W.alloc (.cells Z9 4)).alloc (.cells #[.slice (some ⟨W.heap.size,0,none⟩) 9 9] 117)).cell? ((⟨W.heap.size + 1,0,none⟩ : Addr).add j) = some u:=fun W => World.news_of_block (zn8 W _ _)
     have HV6:= zab hV
     have HOE:= zab hoE
     have HOK:= zab hoK
     have HKB:= zab hkb
     have HNEW:= zab hnews
     clear hVA hV hoE hoK hkb hnews
     have hy0 := znn i2
     have hkK : ∀ row,(ve.ownBlock = row) -> vk.ownBlock = none \/ vk.ownBlock ≠ row:=fun row h => by
      rcases hdis.out with h2 | h2
      ·exact .inl h2.2
      ·exact .inr (fun e => h2 (h.trans e.symm))
     have HKK:= zab hkK
     clear hkK
     have rest2 : ∀ (g1 cap1 : Nat) (w7 : World),w7.ownsRow w5.heap.size 117 1 (.slice (some ⟨g1,0,none⟩) (i2 + 1) cap1) (i2 + 1) (slC 9 es ++ [.slice (some ⟨w6.heap.size,0,none⟩) 9 9]) -> ((w6.drew.alloc (.cells Z9 4)).alloc (.cells #[.slice (some ⟨w6.heap.size,0,none⟩) 9 9] 117)).grownBy w7 ve.ownBlock -> (ve.ownBlock = some g1 \/ g1 = w6.heap.size + 2) -> w6.heap.size + 2 <= w7.heap.size ->
       ∀ (g2 cap2 : Nat) (w9 : World),w9.ownsRow w5.heap.size 117 1 (.slice (some ⟨g2,0,none⟩) (i2 + 1) cap2) (i2 + 1) (slC 9 ks ++ [.slice (some ⟨w7.heap.size,0,none⟩) 9 9]) -> (((w7.setCell ⟨w.heap.size + 1,4,none⟩ (.slice (some ⟨g1,0,none⟩) (i2 + 1) cap1)).drew.alloc (.cells Z9 4)).alloc (.cells #[.slice (some ⟨w7.heap.size,0,none⟩) 9 9] 117)).grownBy w9 vk.ownBlock -> (vk.ownBlock = some g2 \/ g2 = w7.heap.size + 2) -> ∃ (i3 : Nat) (ve vk : Value) (es ks : List Nat),i3 <= 9 /\ Value.int .i64 ((i2 : Int) + 1) = .int .i64 i3 /\ RowIs (w9.setCell ⟨w.heap.size + 1,5,none⟩ (.slice (some ⟨g2,0,none⟩) (i2 + 1) cap2)) (w.heap.size + 1) 116 [.slice sa i sc,.slice ta tl tc,.slice va vl vc,.slice fa i fc,ve,vk] /\ World.ownsRow (w9.setCell ⟨w.heap.size + 1,5,none⟩ (.slice (some ⟨g2,0,none⟩) (i2 + 1) cap2)) w5.heap.size 117 1 ve i3 (slC 9 es) /\ World.ownsRow (w9.setCell ⟨w.heap.size + 1,5,none⟩ (.slice (some ⟨g2,0,none⟩) (i2 + 1) cap2)) w5.heap.size 117 1 vk i3 (slC 9 ks) /\ Hid ((ve.ownBlock = none /\ vk.ownBlock = none) \/ ve.ownBlock ≠ vk.ownBlock) /\ Hid (es.length = i3 /\ ks.length = i3 /\ (es ++ ks).Nodup) /\ Hid (∀ b ∈ es ++ ks,w5.heap.size <= b /\ RowIs (w9.setCell ⟨w.heap.size + 1,5,none⟩ (.slice (some ⟨g2,0,none⟩) (i2 + 1) cap2)) b 4 ((List.replicate 9 false).map .bool)) /\ KeptBut (w.heap.size + 1) w5 (w9.setCell ⟨w.heap.size + 1,5,none⟩ (.slice (some ⟨g2,0,none⟩) (i2 + 1) cap2)) /\ Below (w.heap.size + 1) (w.alloc (.cells #[.slice sa i sc,.slice ta tl tc,.slice va vl vc] 26)) (w9.setCell ⟨w.heap.size + 1,5,none⟩ (.slice (some ⟨g2,0,none⟩) (i2 + 1) cap2)):=by
      intro g1 cap1 w7 hown1 hgrow1 hat1 hz7 g2 cap2 w9 hown2 hgrow2 hat2
      have hz8 : (w7.setCell ⟨w.heap.size + 1,4,none⟩ (.slice (some ⟨g1,0,none⟩) (i2 + 1) cap1)).heap.size = w7.heap.size:=by simp [World.setCell]
      have hz9 : w7.heap.size + 2 <= w9.heap.size:=by have:=hgrow2.size;simp [World.setCell] at this;omega
      have hgV : w.heap.size + 1 < w5.heap.size:=hVl
      have l1:=hown1.lt g1 rfl
      have l2:=hown2.lt g2 rfl
      have hV7:=RowIs.grown (RowIs.keep (w:=w6.drew) HV6.out (bxx w6.drew (.cells Z9 4) (.cells #[.slice (some ⟨w6.heap.size,0,none⟩) 9 9] 117))) hgrow1 ne1
      have hV8:=hV7.set 4 (.slice (some ⟨g1,0,none⟩) (i2 + 1) cap1)
      have hV9:=RowIs.grown (RowIs.keep (w:=(w7.setCell ⟨w.heap.size + 1,4,none⟩ (.slice (some ⟨g1,0,none⟩) (i2 + 1) cap1)).drew) hV8 (bxx (w7.setCell ⟨w.heap.size + 1,4,none⟩ (.slice (some ⟨g1,0,none⟩) (i2 + 1) cap1)).drew (.cells Z9 4) (.cells #[.slice (some ⟨w7.heap.size,0,none⟩) 9 9] 117))) hgrow2 ne2
      have hVF:=hV9.set 5 (.slice (some ⟨g2,0,none⟩) (i2 + 1) cap2)
      have P1 : ∀ b cs,RowIs ((w6.drew.alloc (.cells Z9 4)).alloc (.cells #[.slice (some ⟨w6.heap.size,0,none⟩) 9 9] 117)) b 4 cs -> RowIs (w7.setCell ⟨w.heap.size + 1,4,none⟩ (.slice (some ⟨g1,0,none⟩) (i2 + 1) cap1)) b 4 cs:=fun b cs h => by
       have h2:=h.grown hgrow1 (zcd ((HOE.out.drew.alloc _).alloc _) h (by decide))
       exact h2.setOther (by show w.heap.size + 1 ≠ b;exact hV7.ne h2 (by decide)) _
      have oK8:=(ownsRow_setCell_below (((HOK.out.drew.alloc (.cells Z9 4)).alloc (.cells #[.slice (some ⟨w6.heap.size,0,none⟩) 9 9] 117)).kept hgrow1 (HKK.out _ rfl)) (show (⟨w.heap.size + 1,4,none⟩ : Addr).block < w5.heap.size from hVl) (.slice (some ⟨g1,0,none⟩) (i2 + 1) cap1))
      have P2 : ∀ b cs,RowIs (((w7.setCell ⟨w.heap.size + 1,4,none⟩ (.slice (some ⟨g1,0,none⟩) (i2 + 1) cap1)).drew.alloc (.cells Z9 4)).alloc (.cells #[.slice (some ⟨w7.heap.size,0,none⟩) 9 9] 117)) b 4 cs -> RowIs (w9.setCell ⟨w.heap.size + 1,5,none⟩ (.slice (some ⟨g2,0,none⟩) (i2 + 1) cap2)) b 4 cs:=fun b cs h => by
       have h2:=h.grown hgrow2 (zcd ((oK8.drew.alloc _).alloc _) h (by decide))
       exact h2.setOther (by show w.heap.size + 1 ≠ b;exact hV9.ne h2 (by decide)) _
      have P3 : ∀ b cs,RowIs (w7.setCell ⟨w.heap.size + 1,4,none⟩ (.slice (some ⟨g1,0,none⟩) (i2 + 1) cap1)) b 4 cs -> RowIs (w9.setCell ⟨w.heap.size + 1,5,none⟩ (.slice (some ⟨g2,0,none⟩) (i2 + 1) cap2)) b 4 cs:=fun b cs h => P2 b cs (RowIs.keep (w:=(w7.setCell ⟨w.heap.size + 1,4,none⟩ (.slice (some ⟨g1,0,none⟩) (i2 + 1) cap1)).drew) h (bxx (w7.setCell ⟨w.heap.size + 1,4,none⟩ (.slice (some ⟨g1,0,none⟩) (i2 + 1) cap1)).drew (.cells Z9 4) (.cells #[.slice (some ⟨w7.heap.size,0,none⟩) 9 9] 117)))
      have P0 : ∀ b cs,RowIs w6 b 4 cs -> RowIs (w9.setCell ⟨w.heap.size + 1,5,none⟩ (.slice (some ⟨g2,0,none⟩) (i2 + 1) cap2)) b 4 cs:=fun b cs h => P3 b cs (P1 b cs (RowIs.keep (w:=w6.drew) h (bxx w6.drew (.cells Z9 4) (.cells #[.slice (some ⟨w6.heap.size,0,none⟩) 9 9] 117))))
      have hrE : RowIs (w9.setCell ⟨w.heap.size + 1,5,none⟩ (.slice (some ⟨g2,0,none⟩) (i2 + 1) cap2)) w6.heap.size 4 ((List.replicate 9 false).map .bool):=P3 _ _ (P1 _ _ (RowIs.keep (w:=w6.drew.alloc (.cells Z9 4)) (by unfold RowIs;rw [<- HZ9.out];exact zhx w6.drew _) (bel1 _ _)))
      have hk8:=zhx (w7.setCell ⟨w.heap.size + 1,4,none⟩ (.slice (some ⟨g1,0,none⟩) (i2 + 1) cap1)).drew (.cells Z9 4)
      rw [show (w7.setCell ⟨w.heap.size + 1,4,none⟩ (.slice (some ⟨g1,0,none⟩) (i2 + 1) cap1)).drew.heap.size = w7.heap.size from hz8] at hk8
      have hrK : RowIs (w9.setCell ⟨w.heap.size + 1,5,none⟩ (.slice (some ⟨g2,0,none⟩) (i2 + 1) cap2)) w7.heap.size 4 ((List.replicate 9 false).map .bool):=P2 _ _ (RowIs.keep (w:=(w7.setCell ⟨w.heap.size + 1,4,none⟩ (.slice (some ⟨g1,0,none⟩) (i2 + 1) cap1)).drew.alloc (.cells Z9 4)) (by unfold RowIs;rw [<- HZ9.out];exact hk8) (bel1 _ _))
      have hne1 : some g1 ≠ vk.ownBlock:=fun e => by
       rcases hat1 with h1 | h1
       ·rcases hdis.out with h | h
        ·rw [h.1] at h1;cases h1
        ·exact h (h1.trans e)
       ·have:=(lK g1 e.symm).2;omega
      have hne12 : some g1 ≠ some g2:=fun e => by
       rcases hat2 with h2 | h2
       ·exact hne1 (e.trans h2.symm)
       ·simp at e
        rcases hat1 with h1 | h1
        ·have:=(lE g1 h1).2;omega
        ·omega
      have hLR:=hlen.out
      have hRW:=hrw.out
      refine ⟨i2 + 1,.slice (some ⟨g1,0,none⟩) (i2 + 1) cap1,.slice (some ⟨g2,0,none⟩) (i2 + 1) cap2,es ++ [w6.heap.size],ks ++ [w7.heap.size],by omega,by go_num,hVF,?_,?_,.inr hne12,⟨by simp [hLR.1],by simp [hLR.2.1],zwb hLR.2.2 (fun b hb => (hRW b hb).2.lt) (by omega)⟩,fun b hb => ?_,?_,?_⟩
      ·rw [zlm]
       exact ownsRow_setCell_below (((ownsRow_setCell_below hown1 (show (⟨w.heap.size + 1,4,none⟩ : Addr).block < w5.heap.size from hVl) _).drew.alloc _ |>.alloc _).kept hgrow2 (.inr hne1)) (show (⟨w.heap.size + 1,5,none⟩ : Addr).block < w5.heap.size from hVl) _
      ·rw [zlm]
       exact ownsRow_setCell_below hown2 (show (⟨w.heap.size + 1,5,none⟩ : Addr).block < w5.heap.size from hVl) _
      ·have hb':=hb
       rw [List.mem_append,List.mem_append,List.mem_append,List.mem_singleton,List.mem_singleton] at hb'
       rcases hb' with (h | h) | h | h
       ·have:=hRW b (by simp [h]);exact ⟨this.1,P0 _ _ this.2⟩
       ·subst h;exact ⟨z6,hrE⟩
       ·have:=hRW b (by simp [h]);exact ⟨this.1,P0 _ _ this.2⟩
       ·subst h;exact ⟨by omega,hrK⟩
      ·have k1:=((KeptBut.below (w1:=w6.drew) ⟨HKB.out.size,HKB.out.block⟩ (bxx w6.drew (.cells Z9 4) (.cells #[.slice (some ⟨w6.heap.size,0,none⟩) 9 9] 117))).grown hgrow1 (fun k hk => (lE k hk).1)).set (p:=⟨w.heap.size + 1,4,none⟩) (.inl rfl) (.slice (some ⟨g1,0,none⟩) (i2 + 1) cap1)
       exact ((KeptBut.below (w1:=(w7.setCell ⟨w.heap.size + 1,4,none⟩ (.slice (some ⟨g1,0,none⟩) (i2 + 1) cap1)).drew) ⟨k1.size,k1.block⟩ (bxx (w7.setCell ⟨w.heap.size + 1,4,none⟩ (.slice (some ⟨g1,0,none⟩) (i2 + 1) cap1)).drew (.cells Z9 4) (.cells #[.slice (some ⟨w7.heap.size,0,none⟩) 9 9] 117))).grown hgrow2 (fun k hk => (lK k hk).1)).set (p:=⟨w.heap.size + 1,5,none⟩) (.inl rfl) _
      ·have zz : w.heap.size + 1 <= w6.heap.size:=by omega
       have b1:=(Below.grown (((hb2.drew).alloc zz (.cells Z9 4)).alloc (by simp;omega) (.cells #[.slice (some ⟨w6.heap.size,0,none⟩) 9 9] 117)) hgrow1 (by simp;omega) (fun k hk => by have:=(lE k hk).1;omega)).setCell (p:=⟨w.heap.size + 1,4,none⟩) (Nat.le_refl _) (.slice (some ⟨g1,0,none⟩) (i2 + 1) cap1)
       exact (Below.grown (((b1.drew).alloc (by show _ <= (w7.setCell ⟨w.heap.size + 1,4,none⟩ (.slice (some ⟨g1,0,none⟩) (i2 + 1) cap1)).heap.size;omega) (.cells Z9 4)).alloc (by simp [World.setCell];omega) (.cells #[.slice (some ⟨w7.heap.size,0,none⟩) 9 9] 117)) hgrow2 (by simp [World.setCell];omega) (fun k hk => by have:=(lK k hk).1;omega)).setCell (p:=⟨w.heap.size + 1,5,none⟩) (Nat.le_refl _) _
     have REST2:= zab rest2
     clear rest2
     go_wp2_with fail
     go_region_law (first | (refine step_append_lies _ (by rfl) _ _ _ (by rfl) w5.heap.size 117 li _ 1 24 Tryz.underlying114 hli lz lz1 lz2 rfl (by omega) ve i2 _ (by rfl) ((HOE.out.drew.alloc _).alloc _) ⟨w6.heap.size + 1,0,none⟩ 1 1 [.slice (some ⟨w6.heap.size,0,none⟩) 9 9] (by rfl) (by rfl) (HNEW.out w6.drew) (by simp [Value.oneCell']) (by omega) (by unfold maxLen;omega) (by omega) (by simp;omega) (w6.heap.size + 2) (by simp) ?_;intro g1 cap1 w7 hown1 hgrow1 hat1 hlt1;have hz7 : w6.heap.size + 2 <= w7.heap.size:=(by have:=hgrow1.size;simp at this;omega);have hV7:=RowIs.grown (RowIs.keep (w:=w6.drew) HV6.out (bxx w6.drew (.cells Z9 4) (.cells #[.slice (some ⟨w6.heap.size,0,none⟩) 9 9] 117))) hgrow1 ne1;have c7 : w7.cell? ⟨w.heap.size + 1,4,none⟩ = some ve:=hV7.cell rfl;have z7:=hV7.frozen 4;have HV7:= zab hV7;clear hV7))
     all_goals (
      have hV8:=HV7.out.set 4 (.slice (some ⟨g1,0,none⟩) (i2 + 1) cap1)
      have hz8 : (w7.setCell ⟨w.heap.size + 1,4,none⟩ (.slice (some ⟨g1,0,none⟩) (i2 + 1) cap1)).heap.size = w7.heap.size:=by simp [World.setCell]
      have c8 : (w7.setCell ⟨w.heap.size + 1,4,none⟩ (.slice (some ⟨g1,0,none⟩) (i2 + 1) cap1)).cell? ⟨w.heap.size + 1,5,none⟩ = some vk:=hV8.cell rfl
      have c8d : ((w7.setCell ⟨w.heap.size + 1,4,none⟩ (.slice (some ⟨g1,0,none⟩) (i2 + 1) cap1)).alloc (.cells Z9 4)).cell? ⟨w.heap.size + 1,5,none⟩ = some vk:=zaw _ c8
      have c8e : (((w7.setCell ⟨w.heap.size + 1,4,none⟩ (.slice (some ⟨g1,0,none⟩) (i2 + 1) cap1)).alloc (.cells Z9 4)).alloc (.cells #[.slice (some ⟨w7.heap.size,0,none⟩) 9 9] 117)).cell? ⟨w.heap.size + 1,5,none⟩ = some vk:=zaw _ c8d
      have hoK8:=ownsRow_setCell_below (((HOK.out.drew.alloc (.cells Z9 4)).alloc (.cells #[.slice (some ⟨w6.heap.size,0,none⟩) 9 9] 117)).kept hgrow1 (HKK.out _ rfl)) (show (⟨w.heap.size + 1,4,none⟩ : Addr).block < w5.heap.size from hVl) (.slice (some ⟨g1,0,none⟩) (i2 + 1) cap1)
      have hn8:=HNEW.out (w7.setCell ⟨w.heap.size + 1,4,none⟩ (.slice (some ⟨g1,0,none⟩) (i2 + 1) cap1)).drew
      rw [show (w7.setCell ⟨w.heap.size + 1,4,none⟩ (.slice (some ⟨g1,0,none⟩) (i2 + 1) cap1)).drew.heap.size = w7.heap.size from hz8] at hn8
      have HV8:= zab hV8
      have HOK8:= zab hoK8
      clear hV8 hoK8 cE cE0
      go_wp2_with fail
      go_region_law (first | (refine step_append_lies _ (by rfl) _ _ _ (by rfl) w5.heap.size 117 li _ 1 24 Tryz.underlying114 hli lz lz1 lz2 rfl (by omega) vk i2 _ (by rfl) ((HOK8.out.drew.alloc _).alloc _) ⟨w7.heap.size + 1,0,none⟩ 1 1 [.slice (some ⟨w7.heap.size,0,none⟩) 9 9] (by rfl) (by rfl) hn8 (by simp [Value.oneCell']) (by omega) (by unfold maxLen;omega) (by omega) (by simp;omega) (w7.heap.size + 2) (by simp) ?_;intro g2 cap2 w9 hown2 hgrow2 hat2 hlt2';have hV9:=RowIs.grown (RowIs.keep (w:=(w7.setCell ⟨w.heap.size + 1,4,none⟩ (.slice (some ⟨g1,0,none⟩) (i2 + 1) cap1)).drew) HV8.out (bxx (w7.setCell ⟨w.heap.size + 1,4,none⟩ (.slice (some ⟨g1,0,none⟩) (i2 + 1) cap1)).drew (.cells Z9 4) (.cells #[.slice (some ⟨w7.heap.size,0,none⟩) 9 9] 117))) hgrow2 ne2;have c9 : w9.cell? ⟨w.heap.size + 1,5,none⟩ = some vk:=hV9.cell rfl;have z9:=hV9.frozen 5;have HV9:= zab hV9;clear hV9))
      all_goals (
       go_wp2_with fail
       go_roundw
       case rel => exact REST2.out g1 cap1 w7 hown1 hgrow1 hat1 hz7 g2 cap2 w9 hown2 hgrow2 hat2
       case measure => simp [intOf];omega))
    ·have h29 : i2 = 9:=by omega
     subst h29
     obtain ⟨hE9,hK9,hnd⟩:=hlen.out
     have hRW:=hrw.out
     obtain ⟨g0,g1,g2⟩:=zak (hb2.mono (by simp)) e0
     have hM0:=zr9 hE9 (fun b hb => (hRW b (by simp [hb])).2)
     have hN0:=zr9 hK9 (fun b hb => (hRW b (by simp [hb])).2)
     obtain ⟨gE,cE,rfl⟩:=zez hoE (by omega)
     obtain ⟨gK,cK,rfl⟩:=zez hoK (by omega)
     have hb2w : Below w.heap.size w w6:=hB0.trans (hb2.mono (by simp))
     have hpr:=zpm f sa ta va i sc tl tc vl vc w6 (HF.out.keep hb2w) h3 HR3.out
     have hlk0 : ∀ (gL cL : Nat) (w8 : World),w8.ownsRow w6.heap.size 64 2 (.slice (some ⟨gL,0,none⟩) (prs f.vs).length cL) (prs f.vs).length (prC (prs f.vs)) -> Below w6.heap.size w6 w8 -> Lk w5 (w.alloc (.cells #[.slice sa i sc,.slice ta tl tc,.slice va vl vc] 26)) (w.heap.size + 1) gE cE gK cK gL cL (prs f.vs).length (w.heap.size + 1) w6.heap.size [.slice sa i sc,.slice ta tl tc,.slice va vl vc,.slice fa i fc,.slice (some ⟨gE,0,none⟩) 9 cE,.slice (some ⟨gK,0,none⟩) 9 cK] es ks (prs f.vs) w8 (List.replicate 9 (List.replicate 9 false)) (List.replicate 9 (List.replicate 9 false)):=fun gL cL w8 hoL h8 =>
      ⟨hV.keep h8,zbc hoE h8,zbc hoK h8,hoL,hM0.keep (fun _ _ _ r => r.keep h8),hN0.keep (fun _ _ _ r => r.keep h8),hnd,fun b hb => (hRW b hb).1,hkb.below h8,hb2.trans (h8.mono (by have:=hkb.size;omega)),by omega⟩
     have HLK0:= zab hlk0
     have hL9:=zp1 h3 HR3.out
     have HLT:=(zab (fun p hp => zik h3 HR3.out (p:=p) hp))
     clear hlk0 hM0 hN0 hV hoE hoK hkb hRW hnd hE9 hK9 hdis hlen hrw
     go_wp2_with (go_at_call 57;refine hpr.mono ?_;rintro e w8 ⟨vL,rfl,hoL,hb8⟩;obtain ⟨gL,cL,rfl⟩:=zez hoL hL0;have HLK:=(zab (HLK0.out gL cL w8 hoL hb8));clear hoL)
     go_loopw [11] (fun vi wr => ∃ (x : Nat) (E K : List (List Bool)),x <= (prs f.vs).length /\ vi = .int .i64 x /\ Hid (Mto (prs f.vs) (G false) x 0 E) /\ Hid (Mto (prs f.vs) (G true) x 0 K) /\ Hid (Lk w5 (w.alloc (.cells #[.slice sa i sc,.slice ta tl tc,.slice va vl vc] 26)) (w.heap.size + 1) gE cE gK cK gL cL (prs f.vs).length (w.heap.size + 1) w6.heap.size [.slice sa i sc,.slice ta tl tc,.slice va vl vc,.slice fa i fc,.slice (some ⟨gE,0,none⟩) 9 cE,.slice (some ⟨gK,0,none⟩) 9 cK] es ks (prs f.vs) wr E K)) (fun x _ => (prs f.vs).length - (intOf x).toNat)
     case atStart => exact ⟨0,_,_,Nat.zero_le _,rfl,⟨⟨by simp,fun r hr => by rw [List.eq_of_mem_replicate hr];simp⟩,fun i' j' p q _ _ h => by omega⟩,⟨⟨by simp,fun r hr => by rw [List.eq_of_mem_replicate hr];simp⟩,fun i' j' p q _ _ h => by omega⟩,HLK⟩
     case round =>
      obtain ⟨x,E,K,hx,rfl,hTE,hTK,hLk⟩:=hrel
      rename World => w10
      have hx0 := znn x
      by_cases hxl : x < (prs f.vs).length
      ·obtain ⟨p,hp⟩ : ∃ p,(prs f.vs)[x]? = some p:=⟨(prs f.vs)[x],List.getElem?_eq_getElem hxl⟩
       have hp3:=HLT.out p (List.mem_of_getElem? hp)
       have hx1 : (x : Int) < ((prs f.vs).length : Int):=by omega
       have HPX:= zab hp
       clear hp
       go_wp2_with fail
       go_loopw [12] (fun vj wr => ∃ (y : Nat) (E K : List (List Bool)),y <= (prs f.vs).length /\ vj = .int .i64 y /\ Hid (Mto (prs f.vs) (G false) x y E) /\ Hid (Mto (prs f.vs) (G true) x y K) /\ Hid (Lk w5 (w.alloc (.cells #[.slice sa i sc,.slice ta tl tc,.slice va vl vc] 26)) (w.heap.size + 1) gE cE gK cK gL cL (prs f.vs).length (w.heap.size + 1) w6.heap.size [.slice sa i sc,.slice ta tl tc,.slice va vl vc,.slice fa i fc,.slice (some ⟨gE,0,none⟩) 9 cE,.slice (some ⟨gK,0,none⟩) 9 cK] es ks (prs f.vs) wr E K)) (fun y _ => (prs f.vs).length - (intOf y).toNat)
       case atStart => exact ⟨0,E,K,Nat.zero_le _,rfl,hTE,hTK,hLk⟩
       case round =>
        clear hTE hTK hLk
        obtain ⟨y,E,K,hy,rfl,hTE,hTK,hLk⟩:=hrel
        rename World => w11
        have hy0 := znn y
        by_cases hyl : y < (prs f.vs).length
        ·obtain ⟨q,hq⟩ : ∃ q,(prs f.vs)[y]? = some q:=⟨(prs f.vs)[y],List.getElem?_eq_getElem hyl⟩
         have hq3:=HLT.out q (List.mem_of_getElem? hq)
         have hy1 : (y : Int) < ((prs f.vs).length : Int):=by omega
         obtain ⟨pc0,pc1⟩:=zc3 _ x p HPX.out
         obtain ⟨qc0,qc1⟩:=zc3 _ y q hq
         have lp0:=zaq hLk.out.oL pc0
         have lp1:=zaq hLk.out.oL pc1
         have lq0:=zaq hLk.out.oL qc0
         have lq1:=zaq hLk.out.oL qc1
         have hgl:=zaf lp0
         clear pc0 pc1 qc0 qc1
         have HQY:= zab hq
         have hPx : plN p < 9:=by unfold plN;omega
         have hQy : plN q < 9:=by unfold plN;omega
         have hPx0 : (0 : Int) <= ((plN p : Nat) : Int):=Int.natCast_nonneg _
         have hPx9 : ((plN p : Nat) : Int) < 9:=by omega
         have hQy0 : (0 : Int) <= ((plN q : Nat) : Int):=Int.natCast_nonneg _
         have hQy9 : ((plN q : Nat) : Int) < 9:=by omega
         have id1 : ∀ W,Calls Tryz.prog 58 #[.agg #[.int .i64 p.1,.int .i64 p.2]] W fun e W' => e = .returned (.int .i64 ((plN p : Nat) : Int)) /\ Below W.heap.size W W':=fun W => zev p.1 p.2 (by omega) (by omega) W
         have id2 : ∀ W,Calls Tryz.prog 58 #[.agg #[.int .i64 q.1,.int .i64 q.2]] W fun e W' => e = .returned (.int .i64 ((plN q : Nat) : Int)) /\ Below W.heap.size W W':=fun W => zev q.1 q.2 (by omega) (by omega) W
         clear hq
         go_wp2_with (first
          | (go_at_call 58;have hq:=hb12;refine (id2 _).mono ?_;rintro e w13 ⟨rfl,hb13⟩)
          | (go_at_call 58;refine (id1 _).mono ?_;rintro e w12 ⟨rfl,hb12⟩;have lq0':=zaa hb12 lq0;have lq1':=zaa hb12 lq1))
         clear lp0 lp1 lq0 lq1 hgl
         have hLk3:=(hLk.out.keep hb12).keep hb13
         obtain ⟨b3,hb3e⟩ : ∃ b,es[plN p]? = some b:=⟨es[plN p]'(by rw [hLk3.mE.1];exact hPx),List.getElem?_eq_getElem (by rw [hLk3.mE.1];exact hPx)⟩
         obtain ⟨r3,hr3⟩ : ∃ r,E[plN p]? = some r:=⟨E[plN p]'(by rw [hLk3.mE.2.1.1];exact hPx),List.getElem?_eq_getElem (by rw [hLk3.mE.2.1.1];exact hPx)⟩
         have row3:=hLk3.mE.2.2 _ _ _ hb3e hr3
         have len3:=hLk3.mE.2.1.2 _ (List.mem_of_getElem? hr3)
         obtain ⟨u3r,hu3r⟩ : ∃ u,r3[plN q]? = some u:=⟨r3[plN q]'(by omega),List.getElem?_eq_getElem (by omega)⟩
         have t3 : w13.cell? ⟨b3,plN q,none⟩ = some (.bool u3r):=row3.cell (by rw [List.getElem?_map,hu3r];rfl)
         have z3:=row3.frozen (plN q)
         have v3 : w13.cell? ⟨w.heap.size + 1,4,none⟩ = some (.slice (some ⟨gE,0,none⟩) 9 cE):=hLk3.V.cell rfl
         have e3 : w13.cell? ⟨gE,plN p,none⟩ = some (.slice (some ⟨b3,0,none⟩) 9 9):=zaq hLk3.oE (zqx hb3e)
         have lp0:=zaq hLk3.oL (zc3 _ x p HPX.out).1
         have lp1:=zaq hLk3.oL (zc3 _ x p HPX.out).2
         have lq0:=zaq hLk3.oL (zc3 _ y q HQY.out).1
         have lq1:=zaq hLk3.oL (zc3 _ y q HQY.out).2
         have n1 : b3 ≠ w.heap.size + 1:=fun h => hLk3.V.ne row3 (by decide) h.symm
         have n2 : b3 ≠ gE:=fun h => zcd hLk3.oE row3 (by decide) (by rw [h];rfl)
         have n3 : b3 ≠ gL:=fun h => zcd hLk3.oL row3 (by decide) (by rw [h];rfl)
         have hme3:=HMEET.out p q false w13.drew (w.heap.size + 1) fa fc (List.mem_of_getElem? HPX.out) (List.mem_of_getElem? HQY.out) (by rw [<- HN.out];exact hLk3.drew.vw (HF.out.keep (hB0.trans (hLk3.bl.drew.mono (by simp)))) HN.out HM.out)
         have lt3:=row3.lt
         have l13:=zaf v3
         have l23:=zaf e3
         have l33:=zaf lp0
         have HLk3:= zab hLk3
         have HB3:= zab hb3e
         clear hLk3 row3 hu3r hr3 len3 hb3e
         go_wp2_with fail
         go_region_held3 (fun w' => (w'.cell? ⟨w.heap.size + 1,4,none⟩ = some (.slice (some ⟨gE,0,none⟩) 9 cE) /\ w'.cell? ⟨gE,plN p,none⟩ = some (.slice (some ⟨b3,0,none⟩) 9 9)) /\ (w'.cell? ⟨gL,x * 2,none⟩ = some (.int .i64 p.1) /\ w'.cell? ⟨gL,x * 2 + 1,none⟩ = some (.int .i64 p.2)) /\ w'.cell? ⟨gL,y * 2,none⟩ = some (.int .i64 q.1) /\ w'.cell? ⟨gL,y * 2 + 1,none⟩ = some (.int .i64 q.2)) (go_keep) (first | (go_at_call 59;refine hme3.mono ?_;rintro e w14 ⟨rfl,hbx3⟩;have j1:=zaa hbx3 v3;have j2:=zaa hbx3 e3;have j3:=zaa hbx3 lp0;have j4:=zaa hbx3 lp1;have j5:=zaa hbx3 lq0;have j6:=zaa hbx3 lq1;have j7:=zaa hbx3 t3;have j8:=(hbx3.frozen (p:=⟨b3,plN q,none⟩) (by simpa using lt3)).trans z3))
         all_goals (
          clear j1 j2 j3 j4 j5 j6 j7 j8 n1 n2 n3 lp0 lp1 lq0 lq1
          have hLk4:=(HLk3.out.drew.keep hbx3).setE (G false (plN p) (plN q)) HB3.out hPx hQy
          obtain ⟨b4,hb4e⟩ : ∃ b,ks[plN p]? = some b:=⟨ks[plN p]'(by rw [hLk4.mK.1];exact hPx),List.getElem?_eq_getElem (by rw [hLk4.mK.1];exact hPx)⟩
          obtain ⟨r4,hr4⟩ : ∃ r,K[plN p]? = some r:=⟨K[plN p]'(by rw [hLk4.mK.2.1.1];exact hPx),List.getElem?_eq_getElem (by rw [hLk4.mK.2.1.1];exact hPx)⟩
          have row4:=hLk4.mK.2.2 _ _ _ hb4e hr4
          have len4:=hLk4.mK.2.1.2 _ (List.mem_of_getElem? hr4)
          obtain ⟨u4r,hu4r⟩ : ∃ u,r4[plN q]? = some u:=⟨r4[plN q]'(by omega),List.getElem?_eq_getElem (by omega)⟩
          have t4 : (w14.setCell ⟨b3,plN q,none⟩ (.bool (G false (plN p) (plN q)))).cell? ⟨b4,plN q,none⟩ = some (.bool u4r):=row4.cell (by rw [List.getElem?_map,hu4r];rfl)
          have z4:=row4.frozen (plN q)
          have v4 : (w14.setCell ⟨b3,plN q,none⟩ (.bool (G false (plN p) (plN q)))).cell? ⟨w.heap.size + 1,5,none⟩ = some (.slice (some ⟨gK,0,none⟩) 9 cK):=hLk4.V.cell rfl
          have e4 : (w14.setCell ⟨b3,plN q,none⟩ (.bool (G false (plN p) (plN q)))).cell? ⟨gK,plN p,none⟩ = some (.slice (some ⟨b4,0,none⟩) 9 9):=zaq hLk4.oK (zqx hb4e)
          have lp0:=zaq hLk4.oL (zc3 _ x p HPX.out).1
          have lp1:=zaq hLk4.oL (zc3 _ x p HPX.out).2
          have lq0:=zaq hLk4.oL (zc3 _ y q HQY.out).1
          have lq1:=zaq hLk4.oL (zc3 _ y q HQY.out).2
          have n1 : b4 ≠ w.heap.size + 1:=fun h => hLk4.V.ne row4 (by decide) h.symm
          have n2 : b4 ≠ gK:=fun h => zcd hLk4.oK row4 (by decide) (by rw [h];rfl)
          have n3 : b4 ≠ gL:=fun h => zcd hLk4.oL row4 (by decide) (by rw [h];rfl)
          have hme4:=HMEET.out p q true (w14.setCell ⟨b3,plN q,none⟩ (.bool (G false (plN p) (plN q)))).drew (w.heap.size + 1) fa fc (List.mem_of_getElem? HPX.out) (List.mem_of_getElem? HQY.out) (by rw [<- HN.out];exact hLk4.drew.vw (HF.out.keep (hB0.trans (hLk4.bl.drew.mono (by simp)))) HN.out HM.out)
          have lt4:=row4.lt
          have l14:=zaf v4
          have l24:=zaf e4
          have l34:=zaf lp0
          have HLk4:= zab hLk4
          have HB4:= zab hb4e
          clear hLk4 row4 hu4r hr4 len4 hb4e
          go_wp2_with fail
          go_region_held3 (fun w' => (w'.cell? ⟨w.heap.size + 1,5,none⟩ = some (.slice (some ⟨gK,0,none⟩) 9 cK) /\ w'.cell? ⟨gK,plN p,none⟩ = some (.slice (some ⟨b4,0,none⟩) 9 9)) /\ (w'.cell? ⟨gL,x * 2,none⟩ = some (.int .i64 p.1) /\ w'.cell? ⟨gL,x * 2 + 1,none⟩ = some (.int .i64 p.2)) /\ w'.cell? ⟨gL,y * 2,none⟩ = some (.int .i64 q.1) /\ w'.cell? ⟨gL,y * 2 + 1,none⟩ = some (.int .i64 q.2)) (go_keep) (first | (go_at_call 59;refine hme4.mono ?_;rintro e w16 ⟨rfl,hbx4⟩;have j1:=zaa hbx4 v4;have j2:=zaa hbx4 e4;have j3:=zaa hbx4 lp0;have j4:=zaa hbx4 lp1;have j5:=zaa hbx4 lq0;have j6:=zaa hbx4 lq1;have j7:=zaa hbx4 t4;have j8:=(hbx4.frozen (p:=⟨b4,plN q,none⟩) (by simpa using lt4)).trans z4))
          all_goals (
           go_wp2_with fail
           go_roundw
           case rel => exact ⟨y + 1,_,_,by omega,by go_num,hTE.out.step HPX.out HQY.out hPx hQy,hTK.out.step HPX.out HQY.out hPx hQy,(HLk4.out.drew.keep hbx4).setK (G true (plN p) (plN q)) HB4.out hPx hQy⟩
           case measure => simp [intOf];omega))
        ·have hye : y = (prs f.vs).length:=by omega
         subst hye
         go_wp2_with fail
         go_roundw
         case rel => exact ⟨x + 1,E,K,by omega,by go_num,hTE.out.row,hTK.out.row,hLk⟩
         case measure => simp [intOf];omega
      ·have hxe : x = (prs f.vs).length:=by omega
       subst hxe
       have hQ9:=hLk.out
       obtain ⟨ea,ec,hve,hmE⟩:=hQ9.mE.at hQ9.oE
       obtain ⟨ka,kc,hvk,hmK⟩:=hQ9.mK.at hQ9.oK
       have hbW:=hB0.trans (hQ9.bl.mono (by simp))
       have hR : ∃ (g : Nat) (fa ea ka : Option Addr) (fc ec kc : Nat) (E K : List (List Bool)),Ending.returned (.pointer (some ⟨w.heap.size + 1,0,none⟩)) = .returned (.pointer (some ⟨g,0,none⟩)) /\ VwAt w10 g sa i sc ta tl tc va vl vc fa fc f (matF F f.ss.length) /\ w10.cell? ⟨g,4,none⟩ = some (.slice ea 9 ec) /\ w10.cell? ⟨g,5,none⟩ = some (.slice ka 9 kc) /\ MatAt w10 ea E /\ MatAt w10 ka K /\ Mok (prs f.vs) (G false) E /\ Mok (prs f.vs) (G true) K /\ Below w.heap.size w w10 :=
        ⟨w.heap.size + 1,fa,ea,ka,fc,ec,kc,E,K,rfl,by rw [<- HN.out];exact hQ9.vw (HF.out.keep hbW) HN.out HM.out,by rw [<- hve];exact hQ9.V.cell rfl,by rw [<- hvk];exact hQ9.V.cell rfl,hmE,hmK,hTE.out.ok,hTK.out.ok,hbW⟩
       have HRR:= zab hR
       clear hR hQ9 hve hvk hmE hmK hTE hTK
       go_wp2_with fail
       go_ret
       exact HRR.out
end
end Go.Proofs.YtkkekopomiehlaaGreat
