import Derived.Test.YtkkekopomiehlaaGreatCRp8
import Derived.Test.YtkkekopomiehlaaGreatRows
import Derived.Deep.Slices
import Derived.Deep.Strs
import Derived.Carry
set_option linter.unusedVariables false
set_option linter.unusedSimpArgs false
set_option maxHeartbeats 40000000
set_option maxRecDepth 4000
namespace Go.Proofs.YtkkekopomiehlaaGreat
section
open Go.RowKit
theorem yaax (rels : List (List PinD)) (w : World) (B : Nat) (v : Value) (a : Option Addr) (l cap : Nat) (hv : LRel w B v rels) (hp : RelSl PinSl w a l cap rels) :
  Calls Tryz.prog 53 #[v,.slice a l cap] w fun e W => e = .returned (.bool true) /\ Below w.heap.size w W:=by
 obtain ⟨rfl,hl,hlc,hc9,hp⟩:=hp
 obtain ⟨g,g',cs,rfl,_,hgg,hcl,hrow,hsp,hpin⟩:=hv
 have hgl:=hrow.lt
 have hgl':=hsp.lt
 have l9 : w.cell? ⟨g,rels.length,none⟩ = some (.slice (some ⟨g',0,none⟩) 1 1):=hrow.cell (zkb hcl)
 have s0 : w.cell? ⟨g',0,none⟩ = some (.int .i64 (-7)):=hsp.cell rfl
 have s1 : w.cell? ⟨g',1,none⟩ = some (.int .i64 (-7)):=hsp.cell rfl
 have s2 : w.cell? ⟨g',2,none⟩ = some (.int .i64 (-7)):=hsp.cell rfl
 have HRow:= zab hrow
 have HP:= zab hp
 have HN:= zab hpin
 have HC:= zab hcl
 have hnn : ((rels.length : Int) != (rels.length : Int)) = false:=by simp
 have hx9 : (0 : Int) <= (rels.length : Int):=Int.natCast_nonneg _
 clear hrow hp hsp hpin hcl
 go_enter Tryz.func53,Tryz.ntmps53
 go_wp2_with fail
 go_loopw [6] (fun vi wr => ∃ i : Nat,i <= rels.length /\ vi = .int .i64 i /\ Below w.heap.size w wr) (fun i _ => rels.length - (intOf i).toNat)
 case atStart => exact ⟨0,Nat.zero_le _,rfl,Below.refl _ _⟩
 case round =>
  obtain ⟨i,hi,rfl,hb⟩:=hrel
  have hgl2 : g < wr.heap.size:=Nat.lt_of_lt_of_le hgl hb.size
  have hx0 := znn i
  by_cases hlt : i < rels.length
  ·obtain ⟨ps,hpi⟩ : ∃ ps,rels[i]? = some ps:=⟨rels[i],List.getElem?_eq_getElem hlt⟩
   obtain ⟨u,hu⟩ : ∃ u,cs[i]? = some u:=⟨cs[i]'(by rw [HC.out];omega),List.getElem?_eq_getElem (by rw [HC.out];omega)⟩
   obtain ⟨gp,k1,k2,k3⟩:=HN.out i u ps hu hpi
   have c0:=zaa hb (HRow.out.cell (j:=i) (v:=u) (by rw [List.getElem?_append_left (by rw [HC.out];omega)];exact hu))
   rw [k1] at c0
   obtain ⟨b,o,pa,pl,pc,rfl,d0,hps⟩:=HP.out i ps hpi
   have d0:=zaa hb d0
   have hbl:=zaf d0
   have hx1 : (i : Int) < (rels.length : Int):=by omega
   have hx2 : (i : Int) < (rels.length : Int) + 1:=by omega
   have hcall:=fun (W : World) (h : Below wr.heap.size wr W) => yaaw ps W gp pa pl pc (k3.keep (thn3 hb h)) (hps.keep (thn3 hb h))
   have K3:= zab k3
   clear hpi hu k1 k3 hps
   go_wp2_with fail
   (first | go_region_held3 (fun w' => w'.cell? ⟨g,i,none⟩ = some (.slice (some ⟨gp,0,none⟩) ps.length (ps.length + 1)) /\ w'.cell? ⟨b,o + i,none⟩ = some (.slice pa pl pc)) (go_keep) (first | (go_at_call 73;refine (hcall _ (by first | exact (Below.refl _ _).drew | exact Below.refl _ _)).mono ?_;rintro e w3 ⟨rfl,hb3⟩;have e0:=zaa hb3 c0;have e3:=zaa hb3 d0)) | (go_at_call 73;refine (hcall _ (Below.refl _ _)).mono ?_;rintro e w3 ⟨rfl,hb3⟩))
   go_wp2_with fail
   go_roundw
   case rel => first | exact ⟨i + 1,by omega,by go_num,thn3 hb.drew hb3⟩ | exact ⟨i + 1,by omega,by go_num,thn3 hb hb3⟩
   case measure => simp [intOf];omega
  ·have c9:=zaa hb l9
   have c0:=zaa hb s0
   have c1:=zaa hb s1
   have c2:=zaa hb s2
   have hcall:=fun W => zlh (-7) (-7) (-7) W
   go_wp2_with fail
   (first | go_region_held3 (fun w' => w'.cell? ⟨g',0,none⟩ = some (.int .i64 (-7)) /\ w'.cell? ⟨g',1,none⟩ = some (.int .i64 (-7)) /\ w'.cell? ⟨g',2,none⟩ = some (.int .i64 (-7))) (go_keep) (first | (go_at_call 74;refine (hcall _).mono ?_;rintro e w3 ⟨rfl,hb3⟩;have e0:=zaa hb3 c0;have e1:=zaa hb3 c1;have e2:=zaa hb3 c2)) | (go_at_call 74;refine (hcall _).mono ?_;rintro e w3 ⟨rfl,hb3⟩))
   go_wp2_with fail
   go_ret
   first | exact ⟨rfl,thn3 hb.drew hb3⟩ | exact ⟨rfl,thn3 hb hb3⟩
theorem zv9 (W : World) : (binOp BinOp.eql 65 (Value.slice none 0 0) (Value.slice none 0 0)).run Tryz.prog W = .ok (.bool true) W:=by kernel_rfl
theorem yaay (vs : List SvcD) (w : World) (gv : Nat) (D : List (SvcD × Value)) (a : Option Addr) (cap : Nat) (hl : vs.length <= 2000000) (hD : D.map Prod.fst = vs) (hrow : RowIs w gv 67 (svC D ++ [.int .i64 (-7),.int .i64 (-7),.int .i64 (-7),.slice none 0 0])) (hr : ∀ p ∈ D,LRel w (gv + 1) p.2 p.1.rels) (hp : SvcsAt (RelSl PinSl) w a vs) :
  Calls Tryz.prog 27 #[.slice (some ⟨gv,0,none⟩) vs.length (vs.length + 1),.slice a vs.length cap] w fun e W => e = .returned (.bool true) /\ Below w.heap.size w W:=by
 have hgl:=hrow.lt
 have hDl : D.length = vs.length:=by rw [<- hD,List.length_map]
 have hCl:=zlo D
 rw [hDl] at hCl
 have l0 : w.cell? ⟨gv,vs.length * 4,none⟩ = some (.int .i64 (-7)):=hrow.cell (by rw [List.getElem?_append_right (by omega),hCl,Nat.sub_self];rfl)
 have l1 : w.cell? ⟨gv,vs.length * 4 + 1,none⟩ = some (.int .i64 (-7)):=hrow.cell (by rw [List.getElem?_append_right (by omega),hCl,show vs.length * 4 + 1 - vs.length * 4 = 1 by omega];rfl)
 have l2 : w.cell? ⟨gv,vs.length * 4 + 2,none⟩ = some (.int .i64 (-7)):=hrow.cell (by rw [List.getElem?_append_right (by omega),hCl,show vs.length * 4 + 2 - vs.length * 4 = 2 by omega];rfl)
 have l3 : w.cell? ⟨gv,vs.length * 4 + 3,none⟩ = some (.slice none 0 0):=hrow.cell (by rw [List.getElem?_append_right (by omega),hCl,show vs.length * 4 + 3 - vs.length * 4 = 3 by omega];rfl)
 have HRow:= zab hrow
 have HP:= zab hp
 have HR:= zab hr
 have HD:= zab hD
 have hnn : ((vs.length : Int) != (vs.length : Int)) = false:=by simp
 have hx9 : (0 : Int) <= (vs.length : Int):=Int.natCast_nonneg _
 clear hrow hp hr hD hDl hCl
 go_enter Tryz.func27,Tryz.ntmps27
 go_wp2_with fail
 go_loopw [6] (fun vi wr => ∃ i : Nat,i <= vs.length /\ vi = .int .i64 i /\ Below w.heap.size w wr) (fun i _ => vs.length - (intOf i).toNat)
 case atStart => exact ⟨0,Nat.zero_le _,rfl,Below.refl _ _⟩
 case round =>
  obtain ⟨i,hi,rfl,hb⟩:=hrel
  have hgl2 : gv < wr.heap.size:=Nat.lt_of_lt_of_le hgl hb.size
  have hx0 := znn i
  by_cases hlt : i < vs.length
  ·obtain ⟨v,hvi⟩ : ∃ v,vs[i]? = some v:=⟨vs[i],List.getElem?_eq_getElem hlt⟩
   obtain ⟨⟨v',u⟩,hpi,rfl⟩ : ∃ p,D[i]? = some p /\ p.1 = v:=by
    have h1:=hvi
    rw [<- HD.out,List.getElem?_map] at h1
    obtain ⟨p,h1,h2⟩:=Option.map_eq_some_iff.1 h1
    exact ⟨p,h1,h2⟩
   simp only at hvi
   obtain ⟨t0,t1,t2,t3⟩:=zi0 D i (v',u) [.int .i64 (-7),.int .i64 (-7),.int .i64 (-7),.slice none 0 0] hpi
   have c0:=zaa hb (HRow.out.cell t0)
   have c1:=zaa hb (HRow.out.cell t1)
   have c2:=zaa hb (HRow.out.cell t2)
   have c3:=zaa hb (HRow.out.cell t3)
   have hlr:=HR.out (v',u) (List.mem_of_getElem? hpi)
   obtain ⟨b,o,ra,rl,rc,rfl,d0,d1,d2,d3,hrs⟩:=HP.out i v' hvi
   have d0:=zaa hb d0
   have d1:=zaa hb d1
   have d2:=zaa hb d2
   have d3:=zaa hb d3
   have hbl:=zaf d0
   have hx1 : (i : Int) < (vs.length : Int):=by omega
   have hx2 : (i : Int) < (vs.length : Int) + 1:=by omega
   obtain ⟨x,y,z,rels⟩:=v'
   simp only at c0 c1 c2 c3 d0 d1 d2 d3 hlr hrs
   have hcall:=fun (W : World) (h : Below wr.heap.size wr W) => yaax rels W (gv + 1) u ra rl rc (hlr.keep (thn3 hb h)) (RelSl.keepP (thn3 hb h) hrs)
   have n1 : (x != x) = false:=by simp
   have n2 : (y != y) = false:=by simp
   have n3 : (z != z) = false:=by simp
   clear hpi t0 t1 t2 t3 hvi hrs
   have HL:= zab hlr
   clear hlr
   go_wp2_with fail
   (first | go_region_held3 (fun w' => w'.cell? ⟨gv,i * 4 + 3,none⟩ = some u /\ w'.cell? ⟨b,o + i * 4 + 3,none⟩ = some (.slice ra rl rc)) (go_keep) (first | (go_at_call 53;refine (hcall _ (by first | exact (Below.refl _ _).drew | exact Below.refl _ _)).mono ?_;rintro e w3 ⟨rfl,hb3⟩;have e0:=zaa hb3 c0;have e1:=zaa hb3 c1;have e2:=zaa hb3 c2;have e3:=zaa hb3 c3;have f0:=zaa hb3 d0;have f1:=zaa hb3 d1;have f2:=zaa hb3 d2;have f3:=zaa hb3 d3)) | (go_at_call 53;refine (hcall _ (Below.refl _ _)).mono ?_;rintro e w3 ⟨rfl,hb3⟩;have e0:=zaa hb3 c0;have e1:=zaa hb3 c1;have e2:=zaa hb3 c2;have e3:=zaa hb3 c3;have f0:=zaa hb3 d0;have f1:=zaa hb3 d1;have f2:=zaa hb3 d2;have f3:=zaa hb3 d3))
   go_wp2_with fail
   (first | go_region_held3 (fun w' => (w'.cell? ⟨gv,i * 4,none⟩ = some (.int .i64 x) /\ w'.cell? ⟨gv,i * 4 + 1,none⟩ = some (.int .i64 y) /\ w'.cell? ⟨gv,i * 4 + 2,none⟩ = some (.int .i64 z)) /\ w'.cell? ⟨b,o + i * 4,none⟩ = some (.int .i64 x) /\ w'.cell? ⟨b,o + i * 4 + 1,none⟩ = some (.int .i64 y) /\ w'.cell? ⟨b,o + i * 4 + 2,none⟩ = some (.int .i64 z)) (go_keep) (fail) | skip)
   go_wp2_with fail
   go_roundw
   case rel => first | exact ⟨i + 1,by omega,by go_num,(thn3 hb.drew hb3).drew⟩ | exact ⟨i + 1,by omega,by go_num,(thn3 hb hb3).drew⟩
   case measure => simp [intOf];omega
  ·have c0:=zaa hb l0
   have c1:=zaa hb l1
   have c2:=zaa hb l2
   have c3:=zaa hb l3
   have hnil:=zv9
   go_wp2_with fail
   go_ret
   exact ⟨za9 (by rfl),thn3 hb (bel1 _ _)⟩
theorem yaa1 (f : zae) (gs gt gv : Nat) (D : List (SvcD × Value)) (sa ta va : Option Addr) (sl sc tl tc vl vc : Nat) (w : World) (hL : LentF w gs gt gv D f) (hf : FleetAt w sa sl sc ta tl tc va vl vc f) :
  Calls Tryz.prog 8 #[zgq gs gt gv f,.agg #[.slice sa sl sc,.slice ta tl tc,.slice va vl vc]] w fun e W => e = .returned (.bool true) /\ Below w.heap.size w W:=by
 have c1:=fun (W : World) (h : Below w.heap.size w W) => yaaz f.ss W gs sa sc hf.s2 (hL.s.keep h) (hf.s4.keep h)
 have c2:=fun (W : World) (h : Below w.heap.size w W) => yaa0 f.ts W gt ta tc hf.t2 (hL.t.keep h) (hf.t3.keep h)
 have c3:=fun (W : World) (h : Below w.heap.size w W) => yaay f.vs W gv D va vc hf.v2 hL.d (hL.v.keep h) (fun p hp => (hL.r p hp).keep h) (hf.v3.keep (fun _ _ _ _ h' => RelSl.keepP h h') h)
 unfold zgq
 rw [<- hf.s1] at c1 ⊢
 rw [<- hf.t1] at c2 ⊢
 rw [<- hf.v1] at c3 ⊢
 have e0:=new3 (.cells #[.slice sa sl sc,.slice ta tl tc,.slice va vl vc] 26) (box3 w (.slice (some ⟨gs,0,none⟩) sl (sl + 1)) (.slice (some ⟨gt,0,none⟩) tl (tl + 1)) (.slice (some ⟨gv,0,none⟩) vl (vl + 1)) 26)
 have z0:=box3 (w.alloc (.cells #[.slice (some ⟨gs,0,none⟩) sl (sl + 1),.slice (some ⟨gt,0,none⟩) tl (tl + 1),.slice (some ⟨gv,0,none⟩) vl (vl + 1)] 26)) (.slice sa sl sc) (.slice ta tl tc) (.slice va vl vc) 26
 have hBB:=thn3 (bel1 w (.cells #[.slice (some ⟨gs,0,none⟩) sl (sl + 1),.slice (some ⟨gt,0,none⟩) tl (tl + 1),.slice (some ⟨gv,0,none⟩) vl (vl + 1)] 26)) (bel1 _ (.cells #[.slice sa sl sc,.slice ta tl tc,.slice va vl vc] 26))
 rw [show (w.alloc (.cells #[.slice (some ⟨gs,0,none⟩) sl (sl + 1),.slice (some ⟨gt,0,none⟩) tl (tl + 1),.slice (some ⟨gv,0,none⟩) vl (vl + 1)] 26)).heap.size = w.heap.size + 1 by simp] at z0
 clear hf hL
 go_enter Tryz.func8,Tryz.ntmps8
 go_wp2_with (first
  | (go_at_call 25;refine (c1 _ hBB).mono ?_;rintro e w1 ⟨rfl,hb1⟩;have e1:=zak hb1 e0;have z1:=zak hb1 z0)
  | (go_at_call 26;refine (c2 _ (thn3 hBB hb1)).mono ?_;rintro e w2 ⟨rfl,hb2⟩;have e2:=zak hb2 e1;have z2:=zak hb2 z1)
  | (go_at_call 27;refine (c3 _ (thn3 (thn3 hBB hb1) hb2)).mono ?_;rintro e w3 ⟨rfl,hb3⟩))
 go_ret
 exact ⟨rfl,thn3 (thn3 (thn3 hBB hb1) hb2) hb3⟩
end
section
open Go.RowKit
theorem zu5 {lo hi : Nat} {W w1 : World} (hk : KO lo hi W w1) {b : Nat} {v0 v1 v2 : Value} (hb : b < lo \/ hi <= b) (h : W.cell? ⟨b,0,none⟩ = some v0 /\ W.cell? ⟨b,1,none⟩ = some v1 /\ W.cell? ⟨b,2,none⟩ = some v2) : w1.cell? ⟨b,0,none⟩ = some v0 /\ w1.cell? ⟨b,1,none⟩ = some v1 /\ w1.cell? ⟨b,2,none⟩ = some v2 :=
 ⟨hk.cell hb h.1,hk.cell hb h.2.1,hk.cell hb h.2.2⟩
theorem zoe {B : Nat} {W w1 : World} (hk : Below B W w1) {b : Nat} {v0 v1 v2 : Value} (hb : b < B) (h : W.cell? ⟨b,0,none⟩ = some v0 /\ W.cell? ⟨b,1,none⟩ = some v1 /\ W.cell? ⟨b,2,none⟩ = some v2) : w1.cell? ⟨b,0,none⟩ = some v0 /\ w1.cell? ⟨b,1,none⟩ = some v1 /\ w1.cell? ⟨b,2,none⟩ = some v2:=by
 have:=hk.block b hb
 refine ⟨?_,?_,?_⟩ <;> rw [World.cell?_of_block (w:=W) (by exact this)]
 ·exact h.1
 ·exact h.2.1
 ·exact h.2.2
theorem zsz {w w' : World} {B B' n n' b o : Nat} {e e' : TypeId} {z z' : Nat} {v : Value} {a : Option Addr} {c : Nat} {xs ys : List Value} (h : w.ownsRow B e z v n xs) (h' : w'.ownsRow B' e' z' (.slice a n' c) n' ys) (ha : a = some ⟨b,o,none⟩) (hB : w.heap.size <= B') : v.ownBlock ≠ some b:=fun hv => by
 subst ha
 have:=(h.lt b hv).2
 have:=(h'.lt b rfl).1
 omega
theorem zs0 {w : World} {B n b o hi : Nat} {e : TypeId} {z : Nat} {a : Option Addr} {c : Nat} {xs : List Value} (h : w.ownsRow B e z (.slice a n c) n xs) (ha : a = some ⟨b,o,none⟩) (hB : hi <= B) : hi <= b:=by
 subst ha
 have:=(h.lt b rfl).1
 omega
theorem zxs (f : zae) (sa ta va : Option Addr) (sl sc tl tc vl vc : Nat) (b : Int) (w : World) (hf : FleetAt w sa sl sc ta tl tc va vl vc f) :
  Calls Tryz.prog 4 #[.agg #[.slice sa sl sc,.slice ta tl tc,.slice va vl vc],.int .i64 b] w fun e W => e = .returned (.bool true) /\ Below w.heap.size w W:=by
 have hs:=zuq hf
 have c1:=fun (W : World) (h : Below w.heap.size w W) => zvl f sa ta va sl sc tl tc vl vc W (hf.keep h)
 have c3:=fun (gs gt gv : Nat) (D : List (SvcD × Value)) (W : World) (h : LentF W gs gt gv D f) => zsi f _ _ _ _ _ _ _ _ _ b W (h.at hs)
 have c4:=fun (gs gt gv : Nat) (D : List (SvcD × Value)) (W : World) (h : LentF W gs gt gv D f) (hb : Below w.heap.size w W) => yaa1 f gs gt gv D sa ta va sl sc tl tc vl vc W h (hf.keep hb)
 have c6:=fun (W : World) (h : Below w.heap.size w W) => zxz f sa ta va sl sc tl tc vl vc b W (hf.keep h)
 have c9:=fun (gs gt gv : Nat) (D : List (SvcD × Value)) (lo : Nat) (W W' : World) (h : LentF W gs gt gv D f) (hb : Below W.heap.size W W') (h1 : lo <= gs /\ lo <= gt /\ lo <= gv) (hlo : lo <= W.heap.size) => zzq lo W.heap.size gs gt gv f.ss.length f.ts.length f.vs.length (f.ss.length + 1) (f.ts.length + 1) (f.vs.length + 1) W' ⟨h1.1,h.s.lt⟩ ⟨h1.2.1,h.t.lt⟩ hb.size hs.1 hs.2.2.1 hs.2.2.2.1 (h.spI hs h1.2.2 hb hlo)
 unfold zgq at c1 c4
 have e0:=box3 w (.slice sa sl sc) (.slice ta tl tc) (.slice va vl vc) 26
 clear hf hs
 go_enter Tryz.func4,Tryz.ntmps4
 go_wp2_with (first
  | (go_at_call 5;have hq:=hKO;refine (c1 _ g7).mono ?_;rintro e w8 ⟨gs2,gt2,gv2,D2,rfl,hL8,_,hb8⟩;have e8:=zak hb8 e7;have hL8:= zab hL8;have hM8:=(zab (hM7.out.keep hb8));have hk8:=(zab (hk7.out.keep hb8));have g8:=thn3 g7 hb8)
  | (go_at_call 5;refine (c1 _ (bel1 _ _)).mono ?_;rintro e w1 ⟨gs,gt,gv,D,rfl,hL,hlo,hb1⟩;simp only [World.alloc,Array.size_push] at hlo;have e1:=zak hb1 e0;have hL:= zab hL;have z1 : w.heap.size + 1 <= w1.heap.size:=(by have:=hb1.size;simpa using this);have g1 : Below w.heap.size w w1:=thn3 (bel1 _ _) hb1)
  | (go_at_call 11;have hq:=hKO;refine (c3 gs2 gt2 gv2 D2 _ (hL8.out.keep (bel1 _ _))).mono ?_;rintro e w9 ⟨⟨u2,ms2,err2,rfl,hown2,hPI2⟩,hb9⟩;obtain ⟨rfl,rfl⟩:=hPI2.uniq hPI.out;obtain ⟨a2,c2',rfl,hM9'⟩:=zko hown2 rfl;have e9:=zak hb9 (new3 _ e8);have m9:=zak hb9 (box3 w8 _ _ _ _);have hL9:=(zab ((hL8.out.keep (bel1 _ _)).keep hb9));have hM9':= zab hM9';have hM9:=(zab ((hM8.out.keep (bel1 _ _)).keep hb9));have hk9:=(zab ((hk8.out.keep (bel1 _ _)).keep hb9));have g9:=thn3 (thn3 g8 (bel1 _ _)) hb9)
  | (go_at_call 11;refine (c3 gs gt gv D _ (hL.out.keep (bel1 _ _))).mono ?_;rintro e w2 ⟨⟨u,ms,err,rfl,hown,hPI⟩,hb2⟩;obtain ⟨pa,pc,rfl,hM2⟩:=zko hown rfl;have e2:=zak hb2 (new3 _ e1);have l2:=zak hb2 (box3 w1 _ _ _ _);have hL2:=(zab ((hL.out.keep (bel1 _ _)).keep hb2));have hM2:= zab hM2;have hown:= zab hown;have hPI:= zab hPI;have z2 : w1.heap.size + 1 <= w2.heap.size:=(by have:=hb2.size;simpa using this);have k2:=thn3 (bel1 w1 _) hb2;have g2:=thn3 (thn3 g1 (bel1 _ _)) hb2)
  | (go_at_call 8;have hq:=hKO;refine (c4 gs2 gt2 gv2 D2 _ hL11.out g11).mono ?_;rintro e w12 ⟨rfl,hb12⟩;have g12:=thn3 g11 hb12)
  | (go_at_call 8;refine (c4 gs gt gv D _ hL2.out g2).mono ?_;rintro e w3 ⟨rfl,hb3⟩;have e3:=zak hb3 e2;have l3:=zak hb3 l2;have hM3:=(zab (hM2.out.keep hb3));have z3:=hb3.size;have k3:=thn3 k2 hb3;have g3:=thn3 g2 hb3)
  | (go_at_call 12;refine (c6 _ g3).mono ?_;rintro e w4 ⟨⟨uw,ms',err',rfl,hownw,hPI'⟩,hb4⟩;obtain ⟨rfl,rfl⟩:=hPI'.uniq hPI.out;obtain ⟨wa,wc,rfl,hM4⟩:=zko hownw rfl;have e4:=zak hb4 e3;have l4:=zak hb4 l3;have hM4':=(zab (hM3.out.keep hb4));have hM4:= zab hM4;have hownw:= zab hownw;have z4:=hb4.size;have k4:=thn3 k3 hb4;have g4:=thn3 g3 hb4;have hsh:=hPI.out.short;have q1 : (err' == err') = true:=(by simp);have q2 : (err' != err') = false:=(by simp))
  | (go_at_call 13;have hq:=hKO;refine (zql _ hsh _ _ _ _ _ hM9'.out hM9.out).mono ?_;rintro e w10 ⟨rfl,hb10⟩;have e10:=zak hb10 e9;have m10:=zak hb10 m9;have hk10:=(zab (hk9.out.keep hb10));have hL10:=(zab (hL9.out.keep hb10));have g10:=thn3 g9 hb10)
  | (go_at_call 13;refine (zql _ hsh _ _ _ _ _ hM4'.out hM4.out).mono ?_;rintro e w5 ⟨rfl,hb5⟩;have e5:=zak hb5 e4;have l5:=zak hb5 l4;have hM5:=(zab (hM4.out.keep hb5));have z5:=hb5.size;have k5:=thn3 k4 hb5;have g5:=thn3 g4 hb5)
  | (go_at_call 14;refine (zvs (zbc (zbc (zbc hown.out hb3) hb4) hb5)).mono ?_;rintro e w6 ⟨rfl,hk6,hb6,hs6⟩;have hk6:= zab hk6;have e6:=zoe hb6 (by simp;omega) e5;have l6:=zoe hb6 (by simp) l5;have k6:=k5.trans (hb6.mono (by simp));have g6:=g5.trans (hb6.mono (by simp;omega));have hM6:=(zab (hM5.out.mv (fun b o hab hlt => hs6 b hlt (zsz hown.out hownw.out hab (by omega))))))
  | (go_at_call 15;refine (c9 gs gt gv D (w.heap.size + 1) w1 _ hL.out k6 hlo z1).mono ?_;rintro e w7 ⟨rfl,hKO⟩;have e7:=zu5 hKO (.inl (by omega)) e6;have hM7:=(zab (hM6.out.mv (fun b o hab hlt => hKO.block b hlt (zs0 hownw.out hab (by omega)))));have hk7:=(zab (hk6.out.ko hKO (fun k hk => by have:=(hown.out.lt k hk).1;simp at this;omega)));have g7:=g6.trans (hKO.bel.mono (by omega)))
  | (go_at_call 16;refine (zvv hk10.out).mono ?_;rintro e w11 ⟨rfl,hb11⟩;have e11:=zak hb11 e10;have m11:=zak hb11 m10;have hL11:=(zab (hL10.out.keep hb11));have g11:=thn3 g10 hb11)
  | fail)
 go_ret
 exact ⟨za9 (by rfl),g12⟩
end
section
open Go.RowKit Go.ChangeShapes Go.WideShapes
theorem ztc {H : Type} (d : DataW H) : 1 <= Rows.uptoBulk d:=by
 cases d with
 | lit l => cases l <;> simp [Rows.uptoBulk]
 | _ => simp [Rows.uptoBulk]
theorem zjq {H : Type} : ∀ (l : List (DataW H)) (d : DataW H),d ∈ l -> Rows.uptoBulk d <= Rows.uptoBulkAll l
 | e :: l,d,h => by
  rw [Rows.uptoBulkAll]
  rcases List.mem_cons.1 h with rfl | h
  ·omega
  ·have:=zjq l d h;omega
theorem zjp {H : Type} : ∀ (l : List (DataW H)),l.length <= Rows.uptoBulkAll l
 | [] => Nat.zero_le _
 | d :: l => by have:=ztc d;have:=zjp l;rw [Rows.uptoBulkAll,List.length_cons];omega
theorem zon {α : Type} {p : Nat -> α -> Prop} : ∀ (n : Nat),(∀ i,i < n -> ∃ z,p i z) -> ∃ zs : List α,zs.length = n /\ ∀ i z,zs[i]? = some z -> p i z
 | 0,_ => ⟨[],rfl,fun i z h => by simp at h⟩
 | n + 1,h => by
  obtain ⟨zs,h1,h2⟩:=zon n (fun i hi => h i (by omega))
  obtain ⟨z,hz⟩:=h n (by omega)
  refine ⟨zs ++ [z],by simp [h1],fun i u hi => ?_⟩
  by_cases hl : i < zs.length
  ·rw [List.getElem?_append_left hl] at hi;exact h2 i u hi
  ·have:=(List.getElem?_eq_some_iff.1 hi).1
   rw [List.length_append,List.length_singleton] at this
   have hie : i = n:=by omega
   subst hie
   rw [List.getElem?_append_right (by omega),h1,Nat.sub_self] at hi
   simp at hi
   rw [<- hi];exact hz
section
variable {H : Type} {enc : TypeId × Value -> H} {P : Program} {w : World}
theorem zsp (b o m j : Nat) : ((⟨b,o,none⟩ : Addr).add m).add j = ⟨b,o + m + j,none⟩:=by
 unfold Addr.add
 by_cases h1 : m = 0
 ·subst h1
  by_cases h2 : j = 0
  ·subst h2;rfl
  ·simp [h2]
 ·by_cases h2 : j = 0
  ·subst h2;simp [h1]
  ·simp [h1,h2]
theorem zgx {α : Type} {E : List Value -> α -> Prop} {t e : TypeId} {k fuel : Nat} {cs0 : List Value} {x : DataW H × List MemPlace} (ht : P.underlying t = some (.slice e)) (hk : P.cellsOf e = k) (hk0 : 0 < k)
  (hE : ∀ (n : Nat) (cs : List Value) (y : DataW H × List MemPlace),DataW.trod enc P w 0 (fun _ => true) true n e cs = some y -> cs.length = k -> Rows.uptoBulk y.1 <= 1048576 -> ∃ z,E cs z)
  (h : DataW.trod enc P w 0 (fun _ => true) true fuel t cs0 = some x) (hN : Rows.uptoBulk x.1 <= 1048576) :
  ∃ (a : Option Addr) (len cap : Nat) (zs : List α),cs0 = [.slice a len cap] /\ len = zs.length /\ zs.length <= 2000000 /\ len <= cap /\ cap <= 9000000 /\
   ∀ (i : Nat) (z : α),zs[i]? = some z -> ∃ b o cs,a = some ⟨b,o,none⟩ /\ cs.length = k /\ (∀ (j : Nat) (v : Value),cs[j]? = some v -> w.cell? ⟨b,o + i * k + j,none⟩ = some v) /\ E cs z:=by
 rcases Go.Deep.open_slice ht h with ⟨rfl,rfl⟩ | ⟨a,len,cap,m,n,D,Pl,rfl,hb,hl,hm,hmm,rfl,hx⟩
 ·exact ⟨none,0,0,[],rfl,rfl,Nat.zero_le _,Nat.le_refl _,Nat.zero_le _,fun i z hi => by simp at hi⟩
 ·simp only [if_true] at hmm
  subst hmm
  rw [hk] at hx
  have hbul : Rows.uptoBulkAll ((List.range len).map D) + Rows.uptoBulkAll ((List.range (m - len)).map fun j => D (len + j)) + 1 <= 1048576:=by
   have:=hN;simp only [Rows.uptoBulk] at this;exact this
  have hl1:=zjp ((List.range len).map D)
  have hl2:=zjp ((List.range (m - len)).map fun j => D (len + j))
  rw [List.length_map,List.length_range] at hl1 hl2
  obtain ⟨zs,hz1,hz2⟩:=zon (α:=α) (p:=fun i z => ∃ cs,w.cells? 0 (a.add (i * k)) k = some cs /\ E cs z) len (fun i hi => by
   obtain ⟨cs',h1,h2⟩:=hx i (by omega)
   have hd : Rows.uptoBulk (D i) <= 1048576:=by
    have:=zjq ((List.range len).map D) (D i) (List.mem_map.2 ⟨i,List.mem_range.2 hi,rfl⟩)
    omega
   obtain ⟨z,hz⟩:=hE n cs' (D i,Pl i) h2 (World.cells?_some h1).2.1 hd
   exact ⟨z,cs',h1,hz⟩)
  refine ⟨some a,len,m,zs,rfl,hz1.symm,by omega,hl,by omega,fun i z hi => ?_⟩
  obtain ⟨cs,h1,h2⟩:=hz2 i z hi
  have hil:=(List.getElem?_eq_some_iff.1 hi).1
  obtain ⟨cs',g1,_⟩:=hx 0 (by omega)
  obtain ⟨_,g2,g3⟩:=World.cells?_some g1
  have g4:=g3 0 hk0
  obtain ⟨v0,hv0⟩ : ∃ v0,cs'[0]? = some v0:=⟨cs'[0]'(by omega),List.getElem?_eq_getElem (by omega)⟩
  rw [hv0,Nat.zero_mul] at g4
  obtain ⟨b,o,sp⟩:=a
  obtain rfl : sp = none:=by simpa [Addr.add] using World.cell?_spot g4
  obtain ⟨_,q1,q2⟩:=World.cells?_some h1
  refine ⟨b,o,cs,rfl,q1,fun j v hj => ?_,h2⟩
  have:=q2 j (by have:=(List.getElem?_eq_some_iff.1 hj).1;omega)
  rw [zsp,hj] at this
  exact this
theorem zwq {t e : TypeId} {fuel : Nat} {cs0 : List Value} {x : DataW H × List MemPlace} (ht : P.underlying t = some (.slice e)) (he : P.underlying e = some .string) (hk : P.cellsOf e = 1)
  (h : DataW.trod enc P w 0 (fun _ => true) true fuel t cs0 = some x) (hN : Rows.uptoBulk x.1 <= 1048576) :
  ∃ (a : Option Addr) (len cap : Nat) (ss : List ByteArray),cs0 = [.slice a len cap] /\ len = ss.length /\ ss.length <= 2000000 /\ (∀ s ∈ ss,s.size <= maxLen) /\ StrsAt w a ss:=by
 obtain ⟨a,len,cap,zs,h1,h2,h3,h4,h5,h6⟩:=zgx (E:=fun cs (z : ByteArray) => cs = [.string z] /\ z.size <= maxLen) ht hk (by omega) (fun n cs y hy _ _ => by
  obtain ⟨s,hs,_,hsz⟩:=DataW.trod_string he hy
  exact ⟨s,hs,hsz⟩) h hN
 refine ⟨a,len,cap,zs,h1,h2,h3,fun s hs => ?_,fun i s hi => ?_⟩
 ·obtain ⟨i,hi⟩:=List.getElem?_of_mem hs
  obtain ⟨_,_,_,_,_,_,_,g⟩:=h6 i s hi
  exact g
 ·obtain ⟨b,o,cs,e1,_,e3,e4,_⟩:=h6 i s hi
  refine ⟨b,o,e1,?_⟩
  have:=e3 0 (.string s) (by rw [e4];rfl)
  rwa [Nat.mul_one,Nat.add_zero] at this
end
theorem zf7 {H : Type} {parts : List (DataW H)} {d : DataW H} (h : Rows.uptoBulk (.agg parts) <= 1048576) (hd : d ∈ parts) : Rows.uptoBulk d <= 1048576:=by
 have:=zjq parts d hd
 simp only [Rows.uptoBulk] at h
 omega
section
variable {H : Type} {enc : TypeId × Value -> H} {w : World}
theorem Tryz.cellsInt : Tryz.prog.cellsOf 3 = 1:=by kernel_rfl
theorem Tryz.cellsStr : Tryz.prog.cellsOf 9 = 1:=by kernel_rfl
theorem Tryz.cellsTop : Tryz.prog.cellsOf 89 = 1:=by kernel_rfl
theorem Tryz.cellsPin : Tryz.prog.cellsOf 94 = 3:=by kernel_rfl
theorem Tryz.cellsRel : Tryz.prog.cellsOf 92 = 1:=by kernel_rfl
theorem Tryz.cellsSvc : Tryz.prog.cellsOf 67 = 4:=by kernel_rfl
theorem Tryz.cellsFlt : Tryz.prog.cellsOf 26 = 3:=by kernel_rfl
theorem Tryz.cellsPins : Tryz.prog.cellsOf 90 = 1:=by kernel_rfl
theorem Tryz.cellsRels : Tryz.prog.cellsOf 65 = 1:=by kernel_rfl
theorem zex {n : Nat} {c : Value} {y : DataW H × List MemPlace} (h : DataW.trod enc Tryz.prog w 0 (fun _ => true) true n 3 [c] = some y) : ∃ k,c = .int .i64 k:=by
 obtain ⟨k,hk,_⟩:=DataW.trod_int Tryz.underlying3 h
 simp at hk
 exact ⟨k,hk⟩
theorem zws {fuel : Nat} {cs0 : List Value} {x : DataW H × List MemPlace} (h : DataW.trod enc Tryz.prog w 0 (fun _ => true) true fuel 23 cs0 = some x) (hN : Rows.uptoBulk x.1 <= 1048576) :
  ∃ (a : Option Addr) (len cap : Nat) (ts : List Int),cs0 = [.slice a len cap] /\ len = ts.length /\ ts.length <= 2000000 /\ IntsAt w a ts:=by
 obtain ⟨a,len,cap,zs,h1,h2,h3,h4,h5,h6⟩:=zgx (E:=fun cs (z : Int) => cs = [.int .i64 z]) Tryz.underlying23 Tryz.cellsTop (by omega) (fun n cs y hy hl _ => by
  obtain ⟨xs,m,_,_,_,hlen,hf⟩:=DataW.trod_struct Tryz.underlying89 hy
  match cs,hl with
  | [c],_ =>
   match xs,hlen with
   | [y0],_ =>
    have h0:=hf 0 _ rfl
    simp only [List.getElem_toArray,List.getElem_cons_zero,List.getElem_cons_succ,Tryz.cellsInt] at h0
    obtain ⟨k,hk⟩:=zex (c:=c) h0
    exact ⟨k,by rw [hk]⟩) h hN
 refine ⟨a,len,cap,zs,h1,h2,h3,fun i s hi => ?_⟩
 obtain ⟨b,o,cs,e1,_,e3,e4⟩:=h6 i s hi
 refine ⟨b,o,e1,?_⟩
 have:=e3 0 (.int .i64 s) (by rw [e4];rfl)
 rwa [Nat.mul_one,Nat.add_zero] at this
theorem zwo {fuel : Nat} {cs0 : List Value} {x : DataW H × List MemPlace} (h : DataW.trod enc Tryz.prog w 0 (fun _ => true) true fuel 90 cs0 = some x) (hN : Rows.uptoBulk x.1 <= 1048576) :
  ∃ (a : Option Addr) (len cap : Nat) (ps : List PinD),cs0 = [.slice a len cap] /\ PinSl w a len cap ps:=by
 obtain ⟨a,len,cap,zs,h1,h2,h3,h4,h5,h6⟩:=zgx (E:=fun cs (p : PinD) => cs = [.int .i64 p.t,.int .i64 p.w,.int .i64 p.r]) Tryz.underlying90 Tryz.cellsPin (by omega) (fun n cs y hy hl _ => by
  obtain ⟨xs,m,_,_,_,hlen,hf⟩:=DataW.trod_struct Tryz.underlying94 hy
  match cs,hl with
  | [c0,c1,c2],_ =>
   match xs,hlen with
   | [y0,y1,y2],_ =>
    have h0:=hf 0 _ rfl
    have h1:=hf 1 _ rfl
    have h2:=hf 2 _ rfl
    simp only [List.getElem_toArray,List.getElem_cons_zero,List.getElem_cons_succ,Tryz.cellsInt] at h0 h1 h2
    obtain ⟨k0,hk0⟩:=zex (c:=c0) h0
    obtain ⟨k1,hk1⟩:=zex (c:=c1) h1
    obtain ⟨k2,hk2⟩:=zex (c:=c2) h2
    exact ⟨⟨k0,k1,k2⟩,by rw [hk0,hk1,hk2]⟩) h hN
 refine ⟨a,len,cap,zs,h1,h2,h3,h4,h5,fun i p hi => ?_⟩
 obtain ⟨b,o,cs,e1,_,e3,e4⟩:=h6 i p hi
 subst e4
 exact ⟨b,o,e1,e3 0 _ rfl,e3 1 _ rfl,e3 2 _ rfl⟩
theorem zwp {fuel : Nat} {cs0 : List Value} {x : DataW H × List MemPlace} (h : DataW.trod enc Tryz.prog w 0 (fun _ => true) true fuel 65 cs0 = some x) (hN : Rows.uptoBulk x.1 <= 1048576) :
  ∃ (a : Option Addr) (len cap : Nat) (rs : List (List PinD)),cs0 = [.slice a len cap] /\ RelSl PinSl w a len cap rs:=by
 obtain ⟨a,len,cap,zs,h1,h2,h3,h4,h5,h6⟩:=zgx (E:=fun cs (ps : List PinD) => ∃ pa pl pc,cs = [.slice pa pl pc] /\ PinSl w pa pl pc ps) Tryz.underlying65 Tryz.cellsRel (by omega) (fun n cs y hy hl hy2 => by
  obtain ⟨xs,m,_,hx,_,hlen,hf⟩:=DataW.trod_struct Tryz.underlying92 hy
  match cs,hl with
  | [c],_ =>
   match xs,hlen with
   | [y0],_ =>
    have h0:=hf 0 _ rfl
    simp only [List.getElem_toArray,List.getElem_cons_zero,List.getElem_cons_succ,Tryz.cellsPins] at h0
    rw [hx] at hy2
    obtain ⟨pa,pl,pc,ps,hc,hps⟩:=zwo (cs0:=[c]) h0 (zf7 hy2 (by simp))
    exact ⟨ps,pa,pl,pc,hc,hps⟩) h hN
 refine ⟨a,len,cap,zs,h1,h2,h3,h4,h5,fun i ps hi => ?_⟩
 obtain ⟨b,o,cs,e1,_,e3,pa,pl,pc,e4,e5⟩:=h6 i ps hi
 subst e4
 have:=e3 0 _ rfl
 rw [Nat.mul_one,Nat.add_zero] at this
 exact ⟨b,o,pa,pl,pc,e1,this,e5⟩
theorem zwr {fuel : Nat} {cs0 : List Value} {x : DataW H × List MemPlace} (h : DataW.trod enc Tryz.prog w 0 (fun _ => true) true fuel 24 cs0 = some x) (hN : Rows.uptoBulk x.1 <= 1048576) :
  ∃ (a : Option Addr) (len cap : Nat) (vs : List SvcD),cs0 = [.slice a len cap] /\ len = vs.length /\ vs.length <= 2000000 /\ SvcsAt (RelSl PinSl) w a vs:=by
 obtain ⟨a,len,cap,zs,h1,h2,h3,h4,h5,h6⟩:=zgx (E:=fun cs (v : SvcD) => ∃ ra rl rc,cs = [.int .i64 v.size,.int .i64 v.now,.int .i64 v.want,.slice ra rl rc] /\ RelSl PinSl w ra rl rc v.rels) Tryz.underlying24 Tryz.cellsSvc (by omega) (fun n cs y hy hl hy2 => by
  obtain ⟨xs,m,_,hx,_,hlen,hf⟩:=DataW.trod_struct Tryz.underlying67 hy
  match cs,hl with
  | [c0,c1,c2,c3],_ =>
   match xs,hlen with
   | [y0,y1,y2,y3],_ =>
    have h0:=hf 0 _ rfl
    have h1:=hf 1 _ rfl
    have h2:=hf 2 _ rfl
    have h3:=hf 3 _ rfl
    simp only [List.getElem_toArray,List.getElem_cons_zero,List.getElem_cons_succ,Tryz.cellsInt,Tryz.cellsRels] at h0 h1 h2 h3
    obtain ⟨k0,hk0⟩:=zex (c:=c0) h0
    obtain ⟨k1,hk1⟩:=zex (c:=c1) h1
    obtain ⟨k2,hk2⟩:=zex (c:=c2) h2
    rw [hx] at hy2
    obtain ⟨ra,rl,rc,rs,hc,hrs⟩:=zwp (cs0:=[c3]) h3 (zf7 hy2 (by simp))
    simp at hc
    exact ⟨⟨k0,k1,k2,rs⟩,ra,rl,rc,by rw [hk0,hk1,hk2,hc],hrs⟩) h hN
 refine ⟨a,len,cap,zs,h1,h2,h3,fun i v hi => ?_⟩
 obtain ⟨b,o,cs,e1,_,e3,ra,rl,rc,e4,e5⟩:=h6 i v hi
 subst e4
 exact ⟨b,o,ra,rl,rc,e1,e3 0 _ rfl,e3 1 _ rfl,e3 2 _ rfl,e3 3 _ rfl,e5⟩
end
end
section
open Go.RowKit Go.ChangeShapes Go.WideShapes
section
variable {H : Type} {enc : TypeId × Value -> H} {w : World}
theorem Tryz.cellsStrs2 : Tryz.prog.cellsOf 22 = 1:=by kernel_rfl
theorem Tryz.cellsTops2 : Tryz.prog.cellsOf 23 = 1:=by kernel_rfl
theorem Tryz.cellsSvcs2 : Tryz.prog.cellsOf 24 = 1:=by kernel_rfl
end
set_option maxRecDepth 100000 in
theorem zwn {H : Type} {enc : TypeId × Value -> H} {W : World} {base : Nat} {v : Value} {d : DataW H} {p : List MemPlace} (hv : Value.okWide Tryz.prog W .any base 26 v) (h : DataW.Trod enc Tryz.prog W 0 (fun _ => true) true 26 v d p) (hN : Rows.uptoBulk d <= 1048576) :
  ∃ (f : zae) (sa ta va : Option Addr) (sl sc tl tc vl vc : Nat),v = .agg #[.slice sa sl sc,.slice ta tl tc,.slice va vl vc] /\ FleetAt W sa sl sc ta tl tc va vl vc f:=by
 obtain ⟨cs,rfl,hcs⟩:=okWide_struct Tryz.underlying26 hv
 obtain ⟨fuel,hf⟩:=h
 obtain ⟨xs,m,_,hx,hl,hlen,hfs⟩:=DataW.trod_struct Tryz.underlying26 hf
 simp only [Value.cells] at hf hl hfs
 rw [Tryz.cellsFlt] at hcs
 obtain ⟨l⟩:=cs
 simp at hcs
 match l,hcs with
 | [c0,c1,c2],_ =>
  match xs,hlen with
  | [y0,y1,y2],_ =>
   have h0:=hfs 0 _ rfl
   have h1:=hfs 1 _ rfl
   have h2:=hfs 2 _ rfl
   simp only [List.getElem_toArray,List.getElem_cons_zero,List.getElem_cons_succ,Tryz.cellsStrs2,Tryz.cellsTops2,Tryz.cellsSvcs2] at h0 h1 h2
   have hx1 : d = .agg [y0.1,y1.1,y2.1]:=by simpa using congrArg Prod.fst hx
   rw [hx1] at hN
   obtain ⟨sa,sl,sc,ss,e0,a1,a2,a3,a4⟩:=zwq (cs0:=[c0]) Tryz.underlying22 Tryz.underlying9 Tryz.cellsStr h0 (zf7 hN (by simp))
   obtain ⟨ta,tl,tc,ts,e1,b1,b2,b3⟩:=zws (cs0:=[c1]) h1 (zf7 hN (by simp))
   obtain ⟨va,vl,vc,vs,e2,g1,g2,g3⟩:=zwr (cs0:=[c2]) h2 (zf7 hN (by simp))
   simp at e0 e1 e2
   subst e0 e1 e2
   exact ⟨⟨ss,ts,vs⟩,sa,ta,va,sl,sc,tl,tc,vl,vc,rfl,⟨a1,a2,a3,a4,b1,b2,b3,g1,g2,g3⟩⟩
end
end Go.Proofs.YtkkekopomiehlaaGreat
