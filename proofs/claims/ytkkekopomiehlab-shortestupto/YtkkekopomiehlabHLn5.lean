import Derived.Test.YtkkekopomiehlabHSp4
import Derived.Deep.Onto
set_option linter.unusedVariables false
set_option linter.unusedSimpArgs false
set_option maxHeartbeats 40000000
set_option maxRecDepth 4000
namespace Go.Proofs.Ytkkekopomiehlab
section
open Go.RowKit
structure LentF (w : World) (gs gt gv : Nat) (D : List (SvcD × Value)) (f : zad) : Prop where
 s : RowIs w gs 9 (f.ss.map .string ++ [.string zks])
 t : RowIs w gt 56 (f.ts.map (.int .i64) ++ [.int .i64 (-7)])
 d : D.map Prod.fst = f.vs
 v : RowIs w gv 60 (svC D ++ [.int .i64 (-7),.int .i64 (-7),.int .i64 (-7),.slice none 0 0])
 r : ∀ p ∈ D,LRel w (gv + 1) p.2 p.1.rels
theorem LentF.keep {w w' : World} (hb : Below w.heap.size w w') {gs gt gv : Nat} {D : List (SvcD × Value)} {f : zad} (h : LentF w gs gt gv D f) : LentF w' gs gt gv D f :=
 ⟨h.s.keep hb,h.t.keep hb,h.d,h.v.keep hb,fun p hp => (h.r p hp).keep hb⟩
theorem RowIs.strs {w : World} {g : Nat} {t : TypeId} {ss : List ByteArray} {r : List Value} (h : RowIs w g t (ss.map .string ++ r)) : StrsAt w (some ⟨g,0,none⟩) ss:=fun i s hi => by
 refine ⟨g,0,rfl,?_⟩
 rw [Nat.zero_add]
 refine h.cell ?_
 rw [List.getElem?_append_left (by rw [List.length_map];exact (List.getElem?_eq_some_iff.1 hi).1),List.getElem?_map,hi];rfl
theorem RowIs.ints {w : World} {g : Nat} {t : TypeId} {ns : List Int} {r : List Value} (h : RowIs w g t (ns.map (.int .i64) ++ r)) : IntsAt w (some ⟨g,0,none⟩) ns:=fun i s hi => by
 refine ⟨g,0,rfl,?_⟩
 rw [Nat.zero_add]
 refine h.cell ?_
 rw [List.getElem?_append_left (by rw [List.length_map];exact (List.getElem?_eq_some_iff.1 hi).1),List.getElem?_map,hi];rfl
theorem znm {ps : List PinD} {i : Nat} {p : PinD} (h : ps[i]? = some p) (r : List Value) : (pinC ps ++ r)[i * 3]? = some (.int .i64 p.t) /\ (pinC ps ++ r)[i * 3 + 1]? = some (.int .i64 p.w) /\ (pinC ps ++ r)[i * 3 + 2]? = some (.int .i64 p.r):=by
 have hl:=(List.getElem?_eq_some_iff.1 h).1
 have hc:=zis ps
 refine ⟨?_,?_,?_⟩
 ·rw [List.getElem?_append_left (by omega),zdq,show i * 3 / 3 = i by omega,h];simp
 ·rw [List.getElem?_append_left (by omega),zdq,show (i * 3 + 1) / 3 = i by omega,h,show (i * 3 + 1) % 3 = 1 by omega];simp
 ·rw [List.getElem?_append_left (by omega),zdq,show (i * 3 + 2) / 3 = i by omega,h,show (i * 3 + 2) % 3 = 2 by omega];simp
theorem RowIs.pins {w : World} {g : Nat} {t : TypeId} {ps : List PinD} {r : List Value} (h : RowIs w g t (pinC ps ++ r)) : PinsAt w (some ⟨g,0,none⟩) ps:=fun i p hi => by
 obtain ⟨h1,h2,h3⟩:=znm hi r
 refine ⟨g,0,rfl,?_,?_,?_⟩ <;> rw [Nat.zero_add]
 ·exact h.cell h1
 ·exact h.cell h2
 ·exact h.cell h3
theorem LRel.sl {w : World} {B : Nat} {v : Value} {rels : List (List PinD)} (h : LRel w B v rels) (hl : rels.length <= 2000000) (hps : ∀ ps ∈ rels,ps.length <= 2000000) : ∃ a l c,v = .slice a l c /\ RelSl PinSl w a l c rels:=by
 obtain ⟨g,g',cs,h1,h2,h3,h4,h5,h6,h7⟩:=h
 refine ⟨_,_,_,h1,rfl,hl,by omega,by omega,fun i ps hi => ?_⟩
 have hil:=(List.getElem?_eq_some_iff.1 hi).1
 obtain ⟨u,hu⟩ : ∃ u,cs[i]? = some u:=⟨cs[i]'(by omega),List.getElem?_eq_getElem (by omega)⟩
 obtain ⟨gp,k1,k2,k3⟩:=h7 i u ps hu hi
 have hc : w.cell? ⟨g,i,none⟩ = some u:=h5.cell (by rw [List.getElem?_append_left (by omega)];exact hu)
 rw [k1] at hc
 exact ⟨g,0,_,_,_,rfl,by rw [Nat.zero_add];exact hc,rfl,hps ps (List.mem_of_getElem? hi),by omega,by have:=hps ps (List.mem_of_getElem? hi);omega,k3.pins⟩
theorem zjn : ∀ (D : List (SvcD × Value)) (i : Nat) (p : SvcD × Value) (r : List Value),D[i]? = some p -> (svC D ++ r)[i * 4]? = some (.int .i64 p.1.size) /\ (svC D ++ r)[i * 4 + 1]? = some (.int .i64 p.1.now) /\ (svC D ++ r)[i * 4 + 2]? = some (.int .i64 p.1.want) /\ (svC D ++ r)[i * 4 + 3]? = some p.2
 | [],i,p,r,h => by simp at h
 | q :: D,0,p,r,h => by
  simp at h;subst h
  exact ⟨rfl,rfl,rfl,rfl⟩
 | q :: D,i + 1,p,r,h => by
  rw [List.getElem?_cons_succ] at h
  have:=zjn D i p r h
  have e : svC (q :: D) ++ r = .int .i64 q.1.size :: .int .i64 q.1.now :: .int .i64 q.1.want :: q.2 :: (svC D ++ r):=by simp [svC]
  rw [e,show (i + 1) * 4 = i * 4 + 1 + 1 + 1 + 1 by omega,show i * 4 + 1 + 1 + 1 + 1 + 1 = i * 4 + 1 + 1 + 1 + 1 + 1 by omega]
  exact this
def zoo (f : zad) : Prop:=f.ss.length <= 2000000 /\ (∀ s ∈ f.ss,s.size <= maxLen) /\ f.ts.length <= 2000000 /\ f.vs.length <= 2000000 /\ ∀ v ∈ f.vs,v.rels.length <= 2000000 /\ ∀ ps ∈ v.rels,ps.length <= 2000000
theorem LentF.at {w : World} {gs gt gv : Nat} {D : List (SvcD × Value)} {f : zad} (h : LentF w gs gt gv D f) (hs : zoo f) : FleetAt w (some ⟨gs,0,none⟩) f.ss.length (f.ss.length + 1) (some ⟨gt,0,none⟩) f.ts.length (f.ts.length + 1) (some ⟨gv,0,none⟩) f.vs.length (f.vs.length + 1) f:=by
 obtain ⟨s1,s2,s3,s4,s5⟩:=hs
 refine ⟨rfl,s1,s2,h.s.strs,rfl,s3,h.t.ints,rfl,s4,fun i v hi => ?_⟩
 have hi':=hi
 rw [<- h.d,List.getElem?_map] at hi'
 obtain ⟨p,hp,rfl⟩:=Option.map_eq_some_iff.1 hi'
 obtain ⟨k0,k1,k2,k3⟩:=zjn D i p [.int .i64 (-7),.int .i64 (-7),.int .i64 (-7),.slice none 0 0] hp
 have hm:=List.mem_of_getElem? hi
 obtain ⟨a,l,c,hv,hr⟩:=(h.r p (List.mem_of_getElem? hp)).sl (s5 _ hm).1 (s5 _ hm).2
 have c3:=h.v.cell k3
 rw [hv] at c3
 refine ⟨gv,0,a,l,c,rfl,?_,?_,?_,?_,hr⟩ <;> rw [Nat.zero_add]
 ·exact h.v.cell k0
 ·exact h.v.cell k1
 ·exact h.v.cell k2
 ·exact c3
end
section
open Go.RowKit
end
section
open Go.RowKit Go.Lib
theorem Try.infoMvL : (Try.prog.info? 45).map (fun i => (i.zero,i.size,i.bytes)) = some (some (.agg #[.int .i64 0,.int .i64 0]),2,16):=by kernel_rfl
def MvsAt (w : World) (a : Option Addr) (ms : List (Int × Int)) : Prop:=∀ i m,ms[i]? = some m -> ∃ b o,a = some ⟨b,o,none⟩ /\ w.cell? ⟨b,o + i * 2,none⟩ = some (.int .i64 m.1) /\ w.cell? ⟨b,o + i * 2 + 1,none⟩ = some (.int .i64 m.2)
def mvC (ms : List (Int × Int)) : List Value:=ms.flatMap fun m => [.int .i64 m.1,.int .i64 m.2]
theorem zhz : ∀ ms : List (Int × Int),(mvC ms).length = ms.length * 2
 | [] => rfl
 | p :: ms => by rw [mvC,List.flatMap_cons,List.length_append];have:=zhz ms;rw [mvC] at this;rw [this,List.length_cons];simp;omega
theorem zel : ∀ (ms : List (Int × Int)) (j : Nat),(mvC ms)[j]? = match ms[j / 2]? with | some m => some (if j % 2 = 0 then .int .i64 m.1 else .int .i64 m.2) | none => none
 | [],j => by simp [mvC]
 | p :: ms,j => by
  rw [mvC,List.flatMap_cons]
  by_cases h : j < 2
  ·rw [List.getElem?_append_left (by simpa using h),show j / 2 = 0 by omega]
   obtain rfl | rfl : j = 0 \/ j = 1:=by omega
   all_goals rfl
  ·have:=zel ms (j - 2)
   rw [mvC] at this
   rw [List.getElem?_append_right (by simp;omega),show j - [Value.int .i64 p.1,.int .i64 p.2].length = j - 2 from rfl,this,show j / 2 = (j - 2) / 2 + 1 by omega,List.getElem?_cons_succ,show (j - 2) % 2 = j % 2 by omega]
theorem MvsAt.cells {w : World} {a : Option Addr} {ms : List (Int × Int)} (h : MvsAt w a ms) : zd1 w a (mvC ms):=fun j v hj => by
 rw [zel] at hj
 cases hp : ms[j / 2]? with
 | none => rw [hp] at hj;cases hj
 | some p =>
  rw [hp] at hj
  simp only [Option.some.injEq] at hj
  obtain ⟨b,o,h1,h2,h3⟩:=h _ p hp
  refine ⟨b,o,h1,?_⟩
  rw [<- hj]
  obtain h0 | h0 : j % 2 = 0 \/ j % 2 = 1:=by omega
  ·rw [if_pos h0,show o + j = o + j / 2 * 2 by omega];exact h2
  ·rw [if_neg (by omega),show o + j = o + j / 2 * 2 + 1 by omega];exact h3
theorem zfs {ms : List (Int × Int)} {i : Nat} {m : Int × Int} (h : ms[i]? = some m) (r : List Value) : (mvC ms ++ r)[i * 2]? = some (.int .i64 m.1) /\ (mvC ms ++ r)[i * 2 + 1]? = some (.int .i64 m.2):=by
 have hl:=(List.getElem?_eq_some_iff.1 h).1
 have hc:=zhz ms
 refine ⟨?_,?_⟩
 ·rw [List.getElem?_append_left (by omega),zel,show i * 2 / 2 = i by omega,h];simp
 ·rw [List.getElem?_append_left (by omega),zel,show (i * 2 + 1) / 2 = i by omega,h,show (i * 2 + 1) % 2 = 1 by omega];simp
end
section
open Go.RowKit
def hasI (now : Int) (ms : List (Int × Int)) (s : Int) : Nat -> Int
 | 0 => now
 | j + 1 => if (ms.getD j (-1,0)).1 = s then (ms.getD j (-1,0)).2 else hasI now ms s j
theorem MvsAt.keep {w w' : World} (hb : Below w.heap.size w w') {a : Option Addr} {ms : List (Int × Int)} (h : MvsAt w a ms) : MvsAt w' a ms:=fun i m hi => by
 obtain ⟨b,o,h1,h2,h3⟩:=h i m hi
 exact ⟨b,o,h1,zaa hb h2,zaa hb h3⟩
theorem box2 (w : World) (v0 v1 : Value) (t : TypeId) : (w.alloc (.cells #[v0,v1] t)).cell? ⟨w.heap.size,0,none⟩ = some v0 /\ (w.alloc (.cells #[v0,v1] t)).cell? ⟨w.heap.size,1,none⟩ = some v1 :=
 ⟨zau rfl rfl,zau rfl rfl⟩
end
section
open Go.RowKit
def MatAt (w : World) (a : Option Addr) (M : List (List Bool)) : Prop:=∀ i r,M[i]? = some r -> ∃ b o g c,a = some ⟨b,o,none⟩ /\ w.cell? ⟨b,o + i,none⟩ = some (.slice (some ⟨g,0,none⟩) r.length c) /\ ∀ j x,r[j]? = some x -> w.cell? ⟨g,j,none⟩ = some (.bool x)
theorem MatAt.keep {w w' : World} (hb : Below w.heap.size w w') {a : Option Addr} {M : List (List Bool)} (h : MatAt w a M) : MatAt w' a M:=fun i r hi => by
 obtain ⟨b,o,g,c,h1,h2,h3⟩:=h i r hi
 exact ⟨b,o,g,c,h1,zaa hb h2,fun j x hj => zaa hb (h3 j x hj)⟩
structure VwAt (w : World) (g : Nat) (sa : Option Addr) (sl sc : Nat) (ta : Option Addr) (tl tc : Nat) (va : Option Addr) (vl vc : Nat) (fa : Option Addr) (fc : Nat) (f : zad) (M : List (List Bool)) : Prop where
 fl : FleetAt w sa sl sc ta tl tc va vl vc f
 c0 : w.cell? ⟨g,0,none⟩ = some (.slice sa sl sc)
 c1 : w.cell? ⟨g,1,none⟩ = some (.slice ta tl tc)
 c2 : w.cell? ⟨g,2,none⟩ = some (.slice va vl vc)
 c3 : w.cell? ⟨g,3,none⟩ = some (.slice fa f.ss.length fc)
 fit : MatAt w fa M
theorem VwAt.keep {w w' : World} (hb : Below w.heap.size w w') {g : Nat} {sa ta va fa : Option Addr} {sl sc tl tc vl vc fc : Nat} {f : zad} {M : List (List Bool)} (h : VwAt w g sa sl sc ta tl tc va vl vc fa fc f M) : VwAt w' g sa sl sc ta tl tc va vl vc fa fc f M :=
 ⟨h.fl.keep hb,zaa hb h.c0,zaa hb h.c1,zaa hb h.c2,zaa hb h.c3,h.fit.keep hb⟩
def MatS (S : Nat -> Prop) (w : World) (a : Option Addr) (M : List (List Bool)) : Prop:=∀ i r,M[i]? = some r -> ∃ b o g c,S b /\ S g /\ a = some ⟨b,o,none⟩ /\ w.cell? ⟨b,o + i,none⟩ = some (.slice (some ⟨g,0,none⟩) r.length c) /\ ∀ j x,r[j]? = some x -> w.cell? ⟨g,j,none⟩ = some (.bool x)
theorem MatS.keep {S : Nat -> Prop} {w w' : World} (hb : ∀ b o v,S b -> w.cell? ⟨b,o,none⟩ = some v -> w'.cell? ⟨b,o,none⟩ = some v) {a : Option Addr} {M : List (List Bool)} (h : MatS S w a M) : MatS S w' a M:=fun i r hi => by
 obtain ⟨b,o,g,c,h1,h2,h3,h4,h5⟩:=h i r hi
 exact ⟨b,o,g,c,h1,h2,h3,hb _ _ _ h1 h4,fun j x hj => hb _ _ _ h2 (h5 j x hj)⟩
theorem MatS.at {S : Nat -> Prop} {w : World} {a : Option Addr} {M : List (List Bool)} (h : MatS S w a M) : MatAt w a M:=fun i r hi => by
 obtain ⟨b,o,g,c,h1,h2,h3,h4,h5⟩:=h i r hi
 exact ⟨b,o,g,c,h3,h4,h5⟩
theorem RowIs.ne {w : World} {b b' : Nat} {t t' : TypeId} {cs cs' : List Value} (h : RowIs w b t cs) (h' : RowIs w b' t' cs') (ht : t ≠ t') : b ≠ b':=fun e => by
 subst e
 unfold RowIs at h h'
 rw [h] at h'
 simp at h'
 exact ht h'.2
theorem zmy {w : World} {base size n b : Nat} {e t : TypeId} {v : Value} {xs cs : List Value} (h : w.ownsRow base e size v n xs) (h' : RowIs w b t cs) (ht : t ≠ e) : v.ownBlock ≠ some b:=fun hv => by
 obtain ⟨hl,h | ⟨g',cap',cur,hv',hb,hh,hc,hm,hs,ht'⟩⟩:=h
 ·obtain ⟨h,_⟩:=h;rw [h] at hv;cases hv
 ·rw [hv'] at hv
  have hg : g' = b:=by simpa [Value.ownBlock] using hv
  subst hg
  unfold RowIs at h'
  rw [h'] at hh
  simp at hh
  exact ht hh.2
theorem RowIs.grown {w w' : World} {b : Nat} {t : TypeId} {cs : List Value} {row : Option Nat} (h : RowIs w b t cs) (hg : w.grownBy w' row) (hne : row ≠ some b) : RowIs w' b t cs:=by
 have hlt:=h.lt
 unfold RowIs at h ⊢
 rw [hg.block b hlt (fun e => hne e.symm)];exact h
structure KeptBut (g : Nat) (w w' : World) : Prop where
 size : w.heap.size <= w'.heap.size
 block : ∀ k,k < w.heap.size -> k ≠ g -> w'.heap[k]? = w.heap[k]?
theorem KeptBut.refl (g : Nat) (w : World) : KeptBut g w w:=⟨Nat.le_refl _,fun _ _ _ => rfl⟩
theorem KeptBut.grown {g : Nat} {w w1 w2 : World} {row : Option Nat} (h : KeptBut g w w1) (hg : w1.grownBy w2 row) (hr : ∀ k,row = some k -> w.heap.size <= k) : KeptBut g w w2 :=
 ⟨Nat.le_trans h.size hg.size,fun k hk hne => (hg.block k (Nat.lt_of_lt_of_le hk h.size) (fun e => by have:=hr k e.symm;omega)).trans (h.block k hk hne)⟩
theorem KeptBut.set {g : Nat} {w w1 : World} (h : KeptBut g w w1) {p : Addr} (hp : p.block = g \/ w.heap.size <= p.block) (u : Value) : KeptBut g w (w1.setCell p u) :=
 ⟨Nat.le_trans h.size (by simp [World.setCell]),fun k hk hne => (Below.heap_setCell _ _ _ _ (by rcases hp with h | h <;> omega)).trans (h.block k hk hne)⟩
theorem KeptBut.cell {g : Nat} {w w' : World} (h : KeptBut g w w') {b o : Nat} {v : Value} (hb : b ≠ g) (hc : w.cell? ⟨b,o,none⟩ = some v) : w'.cell? ⟨b,o,none⟩ = some v:=by
 rw [World.cell?_of_block (w:=w) (a:=⟨b,o,none⟩) (h.block b (zaj hc) hb)];exact hc
end
section
set_option maxRecDepth 8000
open Go.RowKit
open Go.Lib (below_setCells)
theorem Way.ge {α : Type} {L : List (TS α)} {g D : Nat} {v : Nat -> Nat} (h : Way L g D v) : ∀ t,t <= D -> t <= v t
 | 0,_ => Nat.zero_le _
 | t + 1,ht => by have:=Way.ge h t (by omega);have:=(h.step t (by omega)).2.1;omega
def mvOf (p : Nat) : Int × Int:=(((p / 3 : Nat) : Int),((p % 3 : Nat) : Int))
def wayM (L : List (TS SiD)) (v : Nat -> Nat) (t : Nat) : Int × Int:=match L[v (t + 1)]? with
 | some a => mvOf a.to
 | none => (0,0)
def wayL (L : List (TS SiD)) (v : Nat -> Nat) (D : Nat) : List (Int × Int):=(List.range D).map (wayM L v)
def wayB (L : List (TS SiD)) (v : Nat -> Nat) (D j : Nat) : List (Int × Int):=(List.range j).map fun i => wayM L v (D - 1 - i)
theorem zhy (a b : List (Int × Int)) : mvC (a ++ b) = mvC a ++ mvC b:=by simp [mvC]
theorem zpu (L : List (TS SiD)) (v : Nat -> Nat) (D j : Nat) : wayB L v D (j + 1) = wayB L v D j ++ [wayM L v (D - 1 - j)]:=by unfold wayB;rw [List.range_succ,List.map_append];rfl
theorem zpw (L : List (TS SiD)) (v : Nat -> Nat) (j : Nat) : wayL L v (j + 1) = wayL L v j ++ [wayM L v j]:=by unfold wayL;rw [List.range_succ,List.map_append];rfl
theorem zpt {L : List (TS SiD)} {v : Nat -> Nat} {D i : Nat} (hi : i < D) : (wayB L v D D)[i]? = some (wayM L v (D - 1 - i)):=by
 unfold wayB;rw [List.getElem?_map,List.getElem?_range hi];rfl
theorem zme {ms : List (Int × Int)} {i : Nat} {m : Int × Int} (h : ms[i]? = some m) : (mvC ms)[i * 2]? = some (.int .i64 m.1) /\ (mvC ms)[i * 2 + 1]? = some (.int .i64 m.2):=by
 have:=zfs h []
 rwa [List.append_nil] at this
theorem zos {w : World} {g : Nat} {L : List (TS SiD)} {i : Nat} {t : TS SiD} (hr : w.rangeAt g 0 (stsC L)) (h : zbp L) (hi : L[i]? = some t) : w.cell? ⟨g,i * 20 + 18,none⟩ = some (.int .i64 t.fr) /\ w.cell? ⟨g,i * 20 + 19,none⟩ = some (.int .i64 t.to):=by
 have hl:=(h t (List.mem_of_getElem? hi)).len
 have hr:=zex hr h hi
 refine ⟨hr 18 _ ?_,hr 19 _ ?_⟩
 iterate 2
  ·unfold stC;rw [List.getElem?_append_right (by omega),hl];rfl
theorem zgc (w : World) (g n cap : Nat) (wn : List Bool) : (w.alloc (.cells (zah g n cap wn).toArray 70)).cell? ⟨w.heap.size,0,none⟩ = some (.slice (some ⟨g,0,none⟩) n cap):=by
 have:=za0 (zan w (.cells (zah g n cap wn).toArray 70)) 0 _ rfl
 exact this
theorem zmc (L : List (TS SiD)) (hL : zbp L) (hlen : L.length <= 262144) (k D : Nat) (v : Nat -> Nat) (hk : k < L.length) (hv : Way L k D v) (hto : ∀ (j : Nat) (a : TS SiD),L[j + 1]? = some a -> a.to < 9) (wn : List Bool) (g cap : Nat) (w : World) (hr : w.rangeAt g 0 (stsC L)) :
  Calls Try.prog 51 #[.agg (zah g L.length cap wn).toArray,.int .i64 k] w fun e W => ∃ u,e = .returned u /\ W.ownsRow w.heap.size 45 2 u D (mvC (wayL L v D)) /\ Below w.heap.size w W:=by
 have hDk : D <= k:=by have:=hv.ge D (Nat.le_refl _);rw [hv.last] at this;exact this
 obtain ⟨i0,hi0,hz0,hzz1,hzz2⟩:=info_parts Try.infoMvL
 have hb0:=belS w (.cells (zah g L.length cap wn).toArray 70)
 have c0:=zgc w g L.length cap wn
 have HV:= zab hv
 have HL:= zab hL
 have HRR:=(zab (zae hb0 hr))
 have HTO:= zab hto
 have hlast:=hv.last
 have hgw : g < w.heap.size:=zeq hr (by rw [zew hL];omega)
 clear hv hL hr hto
 go_enter Try.func51,Try.ntmps51
 go_wp2_with fail
 go_loopw [1,5] (fun vk vb wr => ∃ j g1 c1 : Nat,j <= D /\ vk = .int .i64 ((v (D - j) : Nat) : Int) /\ vb = .slice (some ⟨g1,0,none⟩) j c1 /\ wr.ownsRow (w.heap.size + 1) 45 2 (.slice (some ⟨g1,0,none⟩) j c1) j (mvC (wayB L v D j)) /\ Below (w.heap.size + 1) (w.alloc (.cells (zah g L.length cap wn).toArray 70)) wr) (fun vk _ _ => (intOf vk).toNat)
 case atStart =>
  refine ⟨0,w.heap.size + 1,0,Nat.zero_le _,by rw [Nat.sub_zero,hlast],rfl,?_,(Below.refl (w.heap.size + 1) _).alloc (by simp) _⟩
  have h:=World.ownsRow_made (base:=w.heap.size + 1) (e:=45) (size:=2) (w.alloc (.cells (zah g L.length cap wn).toArray 70)) #[] 0 (by simp) (by unfold maxLen;omega) rfl
  rw [za9] at h;exact h
 case round =>
  obtain ⟨j,g1,c1,hj,rfl,rfl,hown,hb⟩:=hrel
  rename World => w5
  have c5 : w5.cell? ⟨w.heap.size,0,none⟩ = some (.slice (some ⟨g,0,none⟩) L.length cap):=zaa (hb.mono (by simp)) c0
  have hcl:=zaj c5
  have z5:=hb.size
  rw [za9] at z5
  have HB:= zab hb
  have HOWN:= zab hown
  obtain ⟨lN1,lN2⟩:=hown.lt g1 rfl
  have hn1 : some w.heap.size ≠ some g1:=fun e => by simp at e;omega
  have hn2 : some g ≠ some g1:=fun e => by simp at e;omega
  by_cases hlt : j < D
  ·obtain ⟨h0,hd,a,ha,haf⟩:=HV.out.step (D - j - 1) (by omega)
   rw [show D - j - 1 + 1 = D - j by omega] at h0 hd ha
   obtain ⟨m,hm⟩ : ∃ m,v (D - j) = m + 1:=⟨v (D - j) - 1,by omega⟩
   have ha2:=ha
   rw [hm] at ha2
   have hto9:=HTO.out m a ha2
   have hkl:=(List.getElem?_eq_some_iff.1 ha).1
   obtain ⟨s1,s2⟩:=zos (zae (hb.mono (by simp)) HRR.out) HL.out ha
   have hgl:=zaj s1
   have hwm : wayM L v (D - 1 - j) = mvOf a.to:=by unfold wayM;rw [show D - 1 - j + 1 = D - j by omega,ha]
   have hB1:=zpu L v D j
   rw [hwm] at hB1
   have hmv:=fun W => zfr a.to hto9 W
   have hfr : a.fr = v (D - (j + 1)):=by rw [haf];congr 1
   rw [hfr] at s1
   have hd2 : v (D - (j + 1)) < v (D - j):=by rw [show D - (j + 1) = D - j - 1 by omega];exact hd
   generalize v (D - j) = kk at h0 hkl s1 s2 hd2
   have HB1:= zab hB1
   have hx0 : (0 : Int) < (kk : Int):=by omega
   have hx1 : (kk : Int) < (L.length : Int):=by omega
   clear ha ha2 hm hwm hB1 hfr haf hd hown hb hlast
   go_wp2_with (first
    | (go_at_call 56;refine (hmv _).mono ?_;rintro e w6 ⟨rfl,hb6⟩;have c6:=zaa hb6 c5;have s16:=zaa hb6 s1;have hz6:=hb6.size)
    | (at_builtin;refine wpList_append_lies _ rfl _ _ _ rfl (w.heap.size + 1) 45 i0 _ 2 16 Try.underlying27 hi0 hz0 hzz1 hzz2 rfl (by omega) (.slice (some ⟨g1,0,none⟩) j c1) j _ rfl ((zci HOWN.out hb6).alloc _) ⟨w6.heap.size,0,none⟩ 1 1 [.int .i64 ((a.to / 3 : Nat) : Int),.int .i64 ((a.to % 3 : Nat) : Int)] rfl rfl (World.news_of_block (heap_alloc_new w6 _)) (by simp [Value.oneCell']) (by omega) (by unfold maxLen;omega) (by omega) (by simp;omega) (w6.heap.size + 1) (by simp) ?_;intro g2 cap2 w7 hown2 hgrow2 hat2 hlt2;have c7:=hgrow2.cell (zar _ c6) hn1;have s17:=hgrow2.cell (zar _ s16) hn2))
   go_roundw
   case rel =>
    have zg:=hgrow2.size
    refine ⟨j + 1,g2,cap2,by omega,rfl,rfl,by rw [HB1.out,zhy];exact hown2,?_⟩
    exact Below.grown ((HB.out.trans (hb6.mono z5)).alloc (by omega) _) hgrow2 (by simp;omega) (fun k hk => by cases hk;exact lN1)
   case measure => simp [intOf];omega
  ·obtain rfl : j = D:=by omega
   have hz0' : ((v (j - j) : Nat) : Int) = 0:=by rw [Nat.sub_self,HV.out.zero];rfl
   rw [hz0']
   have hjl : j <= 262144:=by omega
   clear hown hb hlast hz0'
   go_wp2_with fail
   go_loopw [6,7] (fun vm va wr => ∃ i g2 c2 : Nat,i <= j /\ va = .int .i64 ((j : Int) - 1 - i) /\ vm = .slice (some ⟨g2,0,none⟩) i c2 /\ wr.ownsRow (w5.heap.size) 45 2 (.slice (some ⟨g2,0,none⟩) i c2) i (mvC (wayL L v i)) /\ Below w5.heap.size w5 wr) (fun _ va _ => (intOf va + 1).toNat)
   case atStart =>
    refine ⟨0,w5.heap.size,0,Nat.zero_le _,by simp,rfl,?_,belS _ _⟩
    exact World.ownsRow_made (base:=w5.heap.size) (e:=45) (size:=2) w5 #[] 0 (Nat.le_refl _) (by unfold maxLen;omega) rfl
   case round =>
    obtain ⟨i,g2,c2,hi,rfl,rfl,hown,hb⟩:=hrel
    rename World => w6
    obtain ⟨l1,l2⟩:=hown.lt g2 rfl
    have z6:=hb.size
    have HOW2:= zab hown
    have HB2:= zab hb
    clear hown hb
    by_cases hlt : i < j
    ·have hget:=zpt (L:=L) (v:=v) (D:=j) (i:=j - 1 - i) (by omega)
     rw [show j - 1 - (j - 1 - i) = i by omega] at hget
     obtain ⟨m1,m2⟩:=zme hget
     have q1 : w6.cell? ⟨g1,(j - 1 - i) * 2,none⟩ = some (.int .i64 (wayM L v i).1):=zaa HB2.out (by rw [HOWN.out.cellAt _ (by omega)];exact m1)
     have q2 : w6.cell? ⟨g1,(j - 1 - i) * 2 + 1,none⟩ = some (.int .i64 (wayM L v i).2):=zaa HB2.out (by rw [HOWN.out.cellAt _ (by omega)];exact m2)
     have hidx : (j : Int) - 1 - i = ((j - 1 - i : Nat) : Int):=by omega
     have hS:=zpw L v i
     generalize wayM L v i = q at q1 q2 hS
     have HS:= zab hS
     have hg6:=zaj q1
     rw [hidx]
     have hy0 : (0 : Int) <= ((j - 1 - i : Nat) : Int):=Int.natCast_nonneg _
     have hy1 : ((j - 1 - i : Nat) : Int) < (j : Int):=by omega
     have HI:= zab hidx
     clear hidx hS hget m1 m2
     generalize j - 1 - i = r at *
     go_wp2_with (at_builtin;refine wpList_append_lies _ rfl _ _ _ rfl w5.heap.size 45 i0 _ 2 16 Try.underlying27 hi0 hz0 hzz1 hzz2 rfl (by omega) (.slice (some ⟨g2,0,none⟩) i c2) i _ rfl (HOW2.out.alloc _) ⟨w6.heap.size,0,none⟩ 1 1 [.int .i64 q.1,.int .i64 q.2] rfl rfl (World.news_of_block (heap_alloc_new w6 _)) (by simp [Value.oneCell']) (by omega) (by unfold maxLen;omega) (by omega) (by simp;omega) (w6.heap.size + 1) (by simp) ?_;intro g3 cap3 w7 hown3 hgrow3 hat3 hlt3)
     go_roundw
     case rel =>
      refine ⟨i + 1,g3,cap3,by omega,by rw [<- HI.out];congr 1;omega,rfl,by rw [HS.out,zhy];exact hown3,?_⟩
      exact Below.grown (HB2.out.alloc (by omega) _) hgrow3 (by simp;omega) (fun k hk => by cases hk;exact l1)
     case measure => simp [intOf]
    ·obtain rfl : i = j:=by omega
     have e1 : (i : Int) - 1 - i = -1:=by omega
     rw [e1]
     clear e1
     go_wp2_with fail
     go_ret
     exact ⟨_,rfl,HOW2.out.mono (by omega),thn3 (hb0.trans (HB.out.mono (by simp))) HB2.out⟩
end
end Go.Proofs.Ytkkekopomiehlab
