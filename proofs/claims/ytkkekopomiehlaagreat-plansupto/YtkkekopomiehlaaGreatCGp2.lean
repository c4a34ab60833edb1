import Derived.Test.YtkkekopomiehlaaGreatCSf5
import Derived.ChangeKeysEq
set_option linter.unusedVariables false
set_option linter.unusedSimpArgs false
set_option maxHeartbeats 40000000
namespace Go.Proofs.YtkkekopomiehlaaGreat
section
def nrB (E : List (Nat × Nat × Nat)) (G : Nat -> Bool) : Nat -> Nat -> Bool
 | 0,i => G i
 | r + 1,i => nrB E G r i || E.any fun e => e.1 == i && nrB E G r e.2.1
theorem zgv {E : List (Nat × Nat × Nat)} {G : Nat -> Bool} {r i : Nat} (h : nrB E G (r + 1) i = true) : nrB E G r i = true \/ ∃ j p,(i,j,p) ∈ E /\ nrB E G r j = true:=by
 rw [nrB,Bool.or_eq_true] at h
 rcases h with h | h
 ·exact .inl h
 ·obtain ⟨⟨a,j,p⟩,he,h2⟩:=List.any_eq_true.1 h
  simp only [Bool.and_eq_true,beq_iff_eq] at h2
  obtain ⟨h3,h4⟩:=h2
  subst h3
  exact .inr ⟨j,p,he,h4⟩
theorem zkr {E : List (Nat × Nat × Nat)} {G : Nat -> Bool} {r i j p : Nat} (he : (i,j,p) ∈ E) (h : nrB E G r j = true) : nrB E G (r + 1) i = true:=by
 rw [nrB,Bool.or_eq_true]
 exact .inr (List.any_eq_true.2 ⟨_,he,by simp [h]⟩)
theorem zkt {E : List (Nat × Nat × Nat)} {G : Nat -> Bool} {i : Nat} {r s : Nat} (hrs : r <= s) (h : nrB E G r i = true) : nrB E G s i = true:=by
 induction hrs with
 | refl => exact h
 | step _ ih => rw [nrB,ih];rfl
theorem zmr {p q : Nat -> Bool} : ∀ {l : List Nat},(∀ x ∈ l,p x = true -> q x = true) -> (∃ x ∈ l,q x = true /\ p x = false) -> l.countP p < l.countP q
 | [],_,h => by obtain ⟨x,hx,_⟩:=h;cases hx
 | a :: l,h1,h2 => by
  have hle : l.countP p <= l.countP q:=List.countP_mono_left fun x hx => h1 x (by simp [hx])
  have ha:=h1 a (by simp)
  rw [List.countP_cons,List.countP_cons]
  obtain ⟨x,hx,hq,hp⟩:=h2
  rcases List.mem_cons.1 hx with rfl | hx
  ·simp [hq,hp];omega
  ·have:=zmr (fun y hy => h1 y (by simp [hy])) ⟨x,hx,hq,hp⟩
   cases hpa : p a with
   | true => simp [ha hpa];omega
   | false => simp;omega
theorem zks {E : List (Nat × Nat × Nat)} {G : Nat -> Bool} {n r : Nat} (hE : ∀ e ∈ E,e.2.1 < n) (h : ∀ i,i < n -> nrB E G (r + 1) i = true -> nrB E G r i = true) : ∀ s i,i < n -> nrB E G s i = true -> nrB E G r i = true
 | 0,i,hi,hs => zkt (Nat.zero_le r) hs
 | s + 1,i,hi,hs => by
  rcases zgv hs with hs | ⟨j,p,he,hj⟩
  ·exact zks hE h s i hi hs
  ·exact h i hi (zkr he (zks hE h s j (hE _ he) hj))
theorem zoy {E : List (Nat × Nat × Nat)} {G : Nat -> Bool} {n : Nat} : ∀ r,(∀ q,q < r -> ¬ ∀ i,i < n -> nrB E G (q + 1) i = true -> nrB E G q i = true) -> r <= (List.range n).countP (nrB E G r)
 | 0,_ => Nat.zero_le _
 | r + 1,h => by
  have ih:=zoy r (fun q hq => h q (by omega))
  have hr:=h r (by omega)
  have hex : ∃ x ∈ List.range n,nrB E G (r + 1) x = true /\ nrB E G r x = false:=by
   apply Classical.byContradiction;intro hc
   refine hr fun i hi h1 => ?_
   cases h2 : nrB E G r i with
   | true => rfl
   | false => exact absurd ⟨i,List.mem_range.2 hi,h1,h2⟩ hc
  have:=zmr (p:=nrB E G r) (q:=nrB E G (r + 1)) (l:=List.range n) (fun x _ hx => zkt (Nat.le_succ r) hx) hex
  omega
theorem zwf {E : List (Nat × Nat × Nat)} {G : Nat -> Bool} {n : Nat} (hE : ∀ e ∈ E,e.2.1 < n) {s i : Nat} (hi : i < n) (h : nrB E G s i = true) : nrB E G n i = true:=by
 have hex : ∃ q,q < n + 1 /\ ∀ i,i < n -> nrB E G (q + 1) i = true -> nrB E G q i = true:=by
  apply Classical.byContradiction;intro hc
  have:=zoy (E:=E) (G:=G) (n:=n) (n + 1) fun q hq hs => hc ⟨q,hq,hs⟩
  have h2:=List.countP_le_length (p:=nrB E G (n + 1)) (l:=List.range n)
  rw [List.length_range] at h2;omega
 obtain ⟨q,hq,hs⟩:=hex
 exact zkt (by omega) (zks hE hs s i hi h)
def zd7 (E : List (Nat × Nat × Nat)) (G : Nat -> Bool) (n : Nat) (F : List Int) : Prop :=
 F.length = n /\ ∀ (i : Nat) (x : Int),F[i]? = some x -> (0 <= x -> nrB E G x.toNat i = true) /\ ∀ s,nrB E G s i = true -> 0 <= x /\ x <= s
def rlxB (F : List Int) (e : Nat × Nat × Nat) : Bool:=decide (0 <= F.getD e.2.1 0) && (decide (F.getD e.1 0 < 0) || decide (F.getD e.2.1 0 + 1 < F.getD e.1 0))
structure MI (E : List (Nat × Nat × Nat)) (G : Nat -> Bool) (n r k : Nat) (F : List Int) : Prop where
 len : F.length = n
 snd : ∀ (i : Nat) (x : Int),F[i]? = some x -> 0 <= x -> nrB E G x.toNat i = true
 cmp : ∀ (s i : Nat) (x : Int),s <= r -> nrB E G s i = true -> F[i]? = some x -> 0 <= x /\ x <= s
 nxt : ∀ (c : Nat) (e : Nat × Nat × Nat) (s : Nat) (x : Int),c < k -> E[c]? = some e -> s <= r -> nrB E G s e.2.1 = true -> F[e.1]? = some x -> 0 <= x /\ x <= s + 1
theorem zc1 {F : List Int} {i : Nat} {x d : Int} (h : F[i]? = some x) : F.getD i d = x:=by rw [List.getD,h];rfl
theorem MI.step {E : List (Nat × Nat × Nat)} {G : Nat -> Bool} {n r k : Nat} {F : List Int} {e : Nat × Nat × Nat} (h : MI E G n r k F) (he : E[k]? = some e) (hn : ∀ e ∈ E,e.1 < n /\ e.2.1 < n) :
  (rlxB F e = true -> MI E G n r (k + 1) (F.set e.1 (F.getD e.2.1 0 + 1))) /\ (rlxB F e = false -> MI E G n r (k + 1) F):=by
 obtain ⟨a,b,p⟩:=e
 obtain ⟨ha,hb⟩:=hn _ (List.mem_of_getElem? he)
 obtain ⟨x,hx⟩ : ∃ x,F[a]? = some x:=⟨_,List.getElem?_eq_getElem (by rw [h.len];exact ha)⟩
 obtain ⟨y,hy⟩ : ∃ y,F[b]? = some y:=⟨_,List.getElem?_eq_getElem (by rw [h.len];exact hb)⟩
 have hmem:=List.mem_of_getElem? he
 unfold rlxB
 simp only [zc1 hx,zc1 hy]
 refine ⟨fun ht => ?_,fun ht => ?_⟩
 ·simp only [Bool.and_eq_true,Bool.or_eq_true,decide_eq_true_eq] at ht
  obtain ⟨h0,h1⟩:=ht
  have hal : a < F.length:=by rw [h.len];exact ha
  have hset : ∀ (i : Nat) (z : Int),(F.set a (y + 1))[i]? = some z -> (i = a /\ z = y + 1) \/ (i ≠ a /\ F[i]? = some z):=fun i z hz => by
   rw [List.getElem?_set] at hz
   by_cases hia : a = i
   ·subst hia;rw [if_pos rfl,if_pos hal] at hz;exact .inl ⟨rfl,by simpa using hz.symm⟩
   ·rw [if_neg hia] at hz;exact .inr ⟨fun hc => hia hc.symm,hz⟩
  have hnear : nrB E G (y + 1).toNat a = true:=by
   rw [show (y + 1).toNat = y.toNat + 1 by omega]
   exact zkr hmem (h.snd b y hy h0)
  refine ⟨by rw [List.length_set];exact h.len,fun i z hz h0z => ?_,fun s i z hs hn hz => ?_,fun c e' s z hc hce hs hn hz => ?_⟩
  ·rcases hset i z hz with ⟨rfl,rfl⟩ | ⟨_,hz⟩
   ·exact hnear
   ·exact h.snd i z hz h0z
  ·rcases hset i z hz with ⟨rfl,rfl⟩ | ⟨_,hz⟩
   ·have:=h.cmp s i x hs hn hx;omega
   ·exact h.cmp s i z hs hn hz
  ·rcases hset e'.1 z hz with ⟨hea,rfl⟩ | ⟨hea,hz⟩
   ·by_cases hck : c = k
    ·subst hck;rw [he] at hce;cases hce
     have:=h.cmp s b y hs hn hy;omega
    ·rw [<- hea] at hx
     have:=h.nxt c e' s x (by omega) hce hs hn hx;omega
   ·by_cases hck : c = k
    ·subst hck;rw [he] at hce;cases hce;exact absurd rfl hea
    ·exact h.nxt c e' s z (by omega) hce hs hn hz
 ·refine ⟨h.len,h.snd,h.cmp,fun c e' s z hc hce hs hn hz => ?_⟩
  by_cases hck : c = k
  ·subst hck;rw [he] at hce;cases hce
   simp only [Bool.and_eq_false_iff,Bool.or_eq_false_iff,decide_eq_false_iff_not] at ht
   have:=h.cmp s b y hs hn hy
   simp only at hz
   rw [hx] at hz;cases hz
   omega
  ·exact h.nxt c e' s z (by omega) hce hs hn hz
theorem MI.round {E : List (Nat × Nat × Nat)} {G : Nat -> Bool} {n r : Nat} {F : List Int} (h : MI E G n r E.length F) : MI E G n (r + 1) 0 F:=by
 refine ⟨h.len,h.snd,fun s i x hs hn hx => ?_,fun c e s x hc => by omega⟩
 by_cases hs' : s <= r
 ·exact h.cmp s i x hs' hn hx
 ·have : s = r + 1:=by omega
  subst this
  rcases zgv hn with hn | ⟨j,p,he,hj⟩
  ·have:=h.cmp r i x (Nat.le_refl _) hn hx;omega
  ·obtain ⟨c,hc⟩:=List.getElem?_of_mem he
   have:=h.nxt c _ r x (List.getElem?_eq_some_iff.1 hc).1 hc (Nat.le_refl _) hj hx
   omega
theorem MI.far {E : List (Nat × Nat × Nat)} {G : Nat -> Bool} {n : Nat} {F : List Int} (h : MI E G n n 0 F) (hn : ∀ e ∈ E,e.1 < n /\ e.2.1 < n) : zd7 E G n F:=by
 refine ⟨h.len,fun i x hx => ⟨h.snd i x hx,fun s hs => ?_⟩⟩
 by_cases hsn : s <= n
 ·exact h.cmp s i x hsn hs hx
 ·have hi : i < n:=by rw [<- h.len];exact (List.getElem?_eq_some_iff.1 hx).1
  have:=h.cmp n i x (Nat.le_refl _) (zwf (fun e he => (hn e he).2) hi hs) hx
  omega
theorem MI.still {E : List (Nat × Nat × Nat)} {G : Nat -> Bool} {n r k : Nat} {F : List Int} (h : MI E G n r k F) (hn : ∀ e ∈ E,e.1 < n /\ e.2.1 < n) (hs : ∀ (c : Nat) (e : Nat × Nat × Nat),E[c]? = some e -> rlxB F e = false) : zd7 E G n F:=by
 have all : ∀ (s i : Nat) (x : Int),nrB E G s i = true -> F[i]? = some x -> 0 <= x /\ x <= s:=by
  intro s
  induction s with
  | zero => exact fun i x hi hx => h.cmp 0 i x (Nat.zero_le _) hi hx
  | succ s ih =>
   intro i x hi hx
   rcases zgv hi with hi | ⟨j,p,he,hj⟩
   ·have:=ih i x hi hx;omega
   ·obtain ⟨c,hc⟩:=List.getElem?_of_mem he
    have ht:=hs c _ hc
    obtain ⟨y,hy⟩ : ∃ y,F[j]? = some y:=⟨_,List.getElem?_eq_getElem (by rw [h.len];exact (hn _ he).2)⟩
    have:=ih j y hj hy
    unfold rlxB at ht
    simp only [zc1 hx,zc1 hy,Bool.and_eq_false_iff,Bool.or_eq_false_iff,decide_eq_false_iff_not] at ht
    omega
 exact ⟨h.len,fun i x hx => ⟨h.snd i x hx,fun s hs => all s i x hs hx⟩⟩
theorem MI.start {E : List (Nat × Nat × Nat)} {G : Nat -> Bool} {n : Nat} {F : List Int} (hl : F.length = n) (h : ∀ (i : Nat) (x : Int),F[i]? = some x -> x = if G i = true then 0 else -1) : MI E G n 0 0 F:=by
 refine ⟨hl,fun i x hx h0 => ?_,fun s i x hs hg hx => ?_,fun c e s x hc => by omega⟩
 ·have:=h i x hx
  split at this
  ·subst this;assumption
  ·omega
 ·obtain rfl : s = 0:=by omega
  have:=h i x hx
  rw [nrB] at hg;rw [if_pos hg] at this;omega
end
section
section
variable {α : Type}
structure EdgesOk (nx : α -> Nat -> Option α) (L : List (TS α)) (E : List (Nat × Nat × Nat)) : Prop where
 ok : ∀ i j p,(i,j,p) ∈ E -> p < 9 /\ ∃ a b,L[i]? = some a /\ L[j]? = some b /\ nx a.now p = some b.now
 all : ∀ (i : Nat) (a : TS α) (p : Nat) (y : α),L[i]? = some a -> p < 9 -> nx a.now p = some y -> ∃ j,(i,j,p) ∈ E
theorem EdgesOk.lt {nx : α -> Nat -> Option α} {L : List (TS α)} {E : List (Nat × Nat × Nat)} (h : EdgesOk nx L E) : ∀ e ∈ E,e.1 < L.length /\ e.2.1 < L.length:=fun ⟨i,j,p⟩ he => by
 obtain ⟨_,a,b,ha,hb,_⟩:=h.ok i j p he
 exact ⟨(List.getElem?_eq_some_iff.1 ha).1,(List.getElem?_eq_some_iff.1 hb).1⟩
theorem EdgesOk.det {nx : α -> Nat -> Option α} {L : List (TS α)} {E : List (Nat × Nat × Nat)} {t : Nat} (h : EdgesOk nx L E) (hi : TInv nx L t) {i j k p : Nat} (h1 : (i,j,p) ∈ E) (h2 : (i,k,p) ∈ E) : j = k:=by
 obtain ⟨_,a,b,ha,hb,hab⟩:=h.ok i j p h1
 obtain ⟨_,a',c,ha',hc,hac⟩:=h.ok i k p h2
 rw [ha] at ha';cases ha'
 rw [hab] at hac
 exact hi.nd j k b c hb hc (by simpa using hac)
theorem TInv.lower {nx : α -> Nat -> Option α} {L : List (TS α)} (h : TInv nx L (9 * L.length)) {i u p k : Nat} {a b x : TS α} (ha : L[i]? = some a) (hb : L[u]? = some b) (hp : p < 9) (hab : nx a.now p = some b.now) (hx : L[k]? = some x) (hk : 0 < k) (ht : 9 * i + p < 9 * x.fr + x.to) : u < k:=by
 have hil:=(List.getElem?_eq_some_iff.1 ha).1
 obtain ⟨j,c,hc,hcb,hj⟩:=h.ev i a p b.now ha hp hab (by omega)
 have hju:=h.nd j u c b hc hb hcb
 subst hju
 rw [hb] at hc;cases hc
 rcases hj with rfl | hj
 ·exact hk
 ·apply Nat.lt_of_not_le;intro hc
  obtain ⟨k,rfl⟩ : ∃ m,k = m + 1:=⟨k - 1,by omega⟩
  obtain ⟨j,rfl⟩ : ∃ m,j = m + 1:=⟨j - 1,by omega⟩
  rcases Nat.lt_or_ge k j with hlt | hge
  ·have:=h.mono k j x b hlt hx hb;omega
  ·obtain rfl : k = j:=by omega
   rw [hb] at hx;cases hx;omega
structure Way (L : List (TS α)) (g D : Nat) (v : Nat -> Nat) : Prop where
 zero : v 0 = 0
 last : v D = g
 step : ∀ t,t < D -> 0 < v (t + 1) /\ v t < v (t + 1) /\ ∃ a,L[v (t + 1)]? = some a /\ a.fr = v t
theorem zr4 {nx : α -> Nat -> Option α} {L : List (TS α)} {t : Nat} (h : TInv nx L t) : ∀ n g,g <= n -> g < L.length -> ∃ D v,Way L g D v:=by
 intro n
 induction n with
 | zero => exact fun g hg _ => ⟨0,fun _ => 0,rfl,by omega,fun t ht => by omega⟩
 | succ n ih =>
  intro g hg hl
  cases g with
  | zero => exact ⟨0,fun _ => 0,rfl,rfl,fun t ht => by omega⟩
  | succ g =>
   obtain ⟨a,ha⟩ : ∃ a,L[g + 1]? = some a:=⟨_,List.getElem?_eq_getElem hl⟩
   obtain ⟨_,h2,_,_⟩:=h.tm g a ha
   obtain ⟨D,v,hv⟩:=ih a.fr (by omega) (by omega)
   refine ⟨D + 1,fun t => if t <= D then v t else g + 1,?_,?_,fun t ht => ?_⟩
   ·simp only [Nat.zero_le,if_true];exact hv.zero
   ·simp only [show ¬ D + 1 <= D by omega,if_false]
   ·by_cases htD : t < D
    ·simp only [show t <= D by omega,show t + 1 <= D by omega,if_true];exact hv.step t htD
    ·obtain rfl : t = D:=by omega
     simp only [Nat.le_refl,show ¬ t + 1 <= t by omega,if_true,if_false]
     exact ⟨by omega,by rw [hv.last];exact h2,a,ha,hv.last.symm⟩
theorem Way.le {L : List (TS α)} {g D : Nat} {v : Nat -> Nat} (h : Way L g D v) : ∀ {s},s <= D -> v s <= g:=by
 intro s hs
 obtain ⟨d,rfl⟩ : ∃ d,D = s + d:=⟨D - s,by omega⟩
 have : ∀ d',d' <= d -> v s <= v (s + d'):=by
  intro d'
  induction d' with
  | zero => exact fun _ => Nat.le_refl _
  | succ d' ih => intro hd;have:=ih (by omega);have:=(h.step (s + d') (by omega)).2.1;rw [<- Nat.add_assoc];omega
 have:=this d (Nat.le_refl _)
 rw [h.last] at this;exact this
section
variable {nx : α -> Nat -> Option α} {L : List (TS α)} {E : List (Nat × Nat × Nat)} {G : Nat -> Bool} {g D : Nat} {v : Nat -> Nat}
theorem zjb (hi : TInv nx L (9 * L.length)) (he : EdgesOk nx L E) (hv : Way L g D v) (hg : ∀ i,i < g -> G i = false) : ∀ c s u,u < v s -> nrB E G c u = true -> s + c <= D -> False
 | 0,s,u,hu,hn,hs => by
  have:=hv.le (s:=s) (by omega)
  rw [nrB,hg u (by omega)] at hn;cases hn
 | c + 1,s,u,hu,hn,hs => by
  rcases zgv hn with hn | ⟨j,p,hj,hn⟩
  ·exact zjb hi he hv hg c s u hu hn (by omega)
  ·obtain ⟨hp,a,b,ha,hb,hab⟩:=he.ok u j p hj
   obtain ⟨h0,_,x,hx,hxf⟩:=hv.step s (by omega)
   exact zjb hi he hv hg c (s + 1) j (hi.lower ha hb hp hab hx h0 (by omega)) hn (by omega)
theorem zr3 (hi : TInv nx L (9 * L.length)) (he : EdgesOk nx L E) (hv : Way L g D v) {t : Nat} (ht : t < D) {x : TS α} (hx : L[v (t + 1)]? = some x) : (v t,v (t + 1),x.to) ∈ E:=by
 obtain ⟨h0,_,x',hx',hxf⟩:=hv.step t ht
 rw [hx] at hx';cases hx'
 obtain ⟨k,hk⟩ : ∃ k,v (t + 1) = k + 1:=⟨v (t + 1) - 1,by omega⟩
 have hx2:=hx
 rw [hk] at hx2
 obtain ⟨_,_,h3,b,hb,hbx⟩:=hi.tm k x hx2
 rw [hxf] at hb
 obtain ⟨j,hj⟩:=he.all (v t) b x.to x.now hb h3 hbx
 obtain ⟨_,a,c,ha,hc,hac⟩:=he.ok _ _ _ hj
 rw [hb] at ha;cases ha
 rw [hbx] at hac
 have:=hi.nd j (v (t + 1)) c x hc hx (by simpa using hac.symm)
 rw [<- this];exact hj
theorem zr5 (hi : TInv nx L (9 * L.length)) (he : EdgesOk nx L E) (hv : Way L g D v) (hG : G g = true) : ∀ d,d <= D -> nrB E G d (v (D - d)) = true
 | 0,_ => by rw [nrB,Nat.sub_zero,hv.last];exact hG
 | d + 1,hd => by
  have ih:=zr5 hi he hv hG d (by omega)
  obtain ⟨_,_,x,hx,_⟩:=hv.step (D - (d + 1)) (by omega)
  have:=zr3 hi he hv (by omega) hx
  rw [show D - (d + 1) + 1 = D - d by omega] at this
  exact zkr this ih
theorem zja (hi : TInv nx L (9 * L.length)) (he : EdgesOk nx L E) (hv : Way L g D v) (hG : G g = true) (hg : ∀ i,i < g -> G i = false) {F : List Int} (hF : zd7 E G L.length F) {t : Nat} (ht : t <= D) {x : Int} (hx : F[v t]? = some x) : x = (D : Int) - t:=by
 obtain ⟨h1,h2⟩:=hF.2 _ _ hx
 have hn:=zr5 hi he hv hG (D - t) (by omega)
 rw [show D - (D - t) = t by omega] at hn
 obtain ⟨h0,hle⟩:=h2 _ hn
 apply Classical.byContradiction;intro hc
 have hlt : x.toNat < D - t:=by omega
 exact zjb hi he hv hg x.toNat (t + 1) (v t) (hv.step t (by omega)).2.1 (h1 h0) (by omega)
theorem yaba (hi : TInv nx L (9 * L.length)) (he : EdgesOk nx L E) (hv : Way L g D v) (hG : G g = true) (hg : ∀ i,i < g -> G i = false) {F : List Int} (hF : zd7 E G L.length F) {t : Nat} (ht : t < D) {x : TS α} (hx : L[v (t + 1)]? = some x) {u p : Nat} (hu : (v t,u,p) ∈ E) {y z : Int} (hy : F[u]? = some y) (hz : F[v t]? = some z) (h0 : 0 <= y) (hyz : y < z) : x.to <= p:=by
 apply Nat.le_of_not_lt;intro hc
 have hzD:=zja hi he hv hG hg hF (by omega) hz
 obtain ⟨hp,a,b,ha,hb,hab⟩:=he.ok _ _ _ hu
 obtain ⟨h0',_,x',hx',hxf⟩:=hv.step t ht
 rw [hx] at hx';cases hx'
 have hlow:=hi.lower ha hb hp hab hx h0' (by omega)
 exact zjb hi he hv hg y.toNat (t + 1) u hlow ((hF.2 _ _ hy).1 h0) (by omega)
theorem zj5 (he : EdgesOk nx L E) (hG : ∀ i,i < L.length -> G i = false) : ∀ s i,i < L.length -> nrB E G s i = false
 | 0,i,hi => hG i hi
 | s + 1,i,hi => by
  cases h : nrB E G (s + 1) i with
  | false => rfl
  | true =>
   rcases zgv h with h | ⟨j,p,hj,h⟩
   ·rw [zj5 he hG s i hi] at h;cases h
   ·rw [zj5 he hG s j (he.lt _ hj).2] at h;cases h
end
end
def cndB (E : List (Nat × Nat × Nat)) (F : List Int) (i k : Nat) : Bool:=match E[k]? with
 | some e => e.1 == i && (decide (0 <= F.getD e.2.1 0) && decide (F.getD e.2.1 0 < F.getD i 0))
 | none => false
def plE (E : List (Nat × Nat × Nat)) (k : Nat) : Nat:=match E[k]? with
 | some e => e.2.2
 | none => 0
def zbf (E : List (Nat × Nat × Nat)) (F : List Int) (i : Nat) : Nat -> Int
 | 0 => -1
 | k + 1 => if cndB E F i k = true /\ (zbf E F i k < 0 \/ plE E k < plE E (zbf E F i k).toNat) then (k : Int) else zbf E F i k
theorem zkp (E : List (Nat × Nat × Nat)) (F : List Int) (i : Nat) : ∀ k,(zbf E F i k = -1 /\ ∀ c,c < k -> cndB E F i c = false) \/ ∃ b : Nat,zbf E F i k = b /\ b < k /\ cndB E F i b = true /\ ∀ c,c < k -> cndB E F i c = true -> plE E b <= plE E c
 | 0 => .inl ⟨rfl,fun c hc => by omega⟩
 | k + 1 => by
  rw [zbf]
  rcases zkp E F i k with ⟨h1,h2⟩ | ⟨b,h1,h2,h3,h4⟩
  ·rw [h1]
   cases hc : cndB E F i k with
   | true =>
    rw [if_pos ⟨rfl,.inl (by omega)⟩]
    refine .inr ⟨k,rfl,by omega,hc,fun c hck hcc => ?_⟩
    by_cases hck' : c = k
    ·rw [hck'];exact Nat.le_refl _
    ·rw [h2 c (by omega)] at hcc;cases hcc
   | false =>
    rw [if_neg (fun h => by cases h.1)]
    refine .inl ⟨rfl,fun c hck => ?_⟩
    by_cases hck' : c = k
    ·rw [hck'];exact hc
    ·exact h2 c (by omega)
  ·rw [h1,Int.toNat_natCast]
   by_cases hc : cndB E F i k = true /\ ((b : Int) < 0 \/ plE E k < plE E b)
   ·rw [if_pos hc]
    have hlt : plE E k < plE E b:=by rcases hc.2 with h | h <;> omega
    refine .inr ⟨k,rfl,by omega,hc.1,fun c hck hcc => ?_⟩
    by_cases hck' : c = k
    ·rw [hck'];exact Nat.le_refl _
    ·have:=h4 c (by omega) hcc;omega
   ·rw [if_neg hc]
    refine .inr ⟨b,rfl,by omega,h3,fun c hck hcc => ?_⟩
    by_cases hck' : c = k
    ·subst hck';apply Nat.le_of_not_lt;intro hl;exact hc ⟨hcc,.inr hl⟩
    ·exact h4 c (by omega) hcc
section
variable {α : Type} {nx : α -> Nat -> Option α} {L : List (TS α)} {E : List (Nat × Nat × Nat)} {G : Nat -> Bool} {g D : Nat} {v : Nat -> Nat}
theorem yabb (hi : TInv nx L (9 * L.length)) (he : EdgesOk nx L E) (hv : Way L g D v) (hG : G g = true) (hg : ∀ i,i < g -> G i = false) (hgl : g < L.length) {F : List Int} (hF : zd7 E G L.length F) {t : Nat} (ht : t < D) {x : TS α} (hx : L[v (t + 1)]? = some x) :
  ∃ b : Nat,zbf E F (v t) E.length = b /\ E[b]? = some (v t,v (t + 1),x.to):=by
 have hed:=zr3 hi he hv ht hx
 have hl:=he.lt _ hed
 obtain ⟨z,hz⟩ : ∃ z,F[v t]? = some z:=⟨_,List.getElem?_eq_getElem (by rw [hF.1];exact hl.1)⟩
 obtain ⟨y,hy⟩ : ∃ y,F[v (t + 1)]? = some y:=⟨_,List.getElem?_eq_getElem (by rw [hF.1];exact hl.2)⟩
 have ez:=zja hi he hv hG hg hF (by omega) hz
 have ey:=zja hi he hv hG hg hF (by omega) hy
 obtain ⟨k,hk⟩:=List.getElem?_of_mem hed
 have hkl:=(List.getElem?_eq_some_iff.1 hk).1
 have hck : cndB E F (v t) k = true:=by
  unfold cndB;rw [hk]
  simp only [zc1 hy,zc1 hz,beq_self_eq_true,Bool.true_and,Bool.and_eq_true,decide_eq_true_eq]
  omega
 rcases zkp E F (v t) E.length with ⟨_,h2⟩ | ⟨b,h1,h2,h3,h4⟩
 ·rw [h2 k hkl] at hck;cases hck
 ·refine ⟨b,h1,?_⟩
  have hle:=h4 k hkl hck
  obtain ⟨⟨i,u,p⟩,hb⟩ : ∃ e,E[b]? = some e:=⟨_,List.getElem?_eq_getElem h2⟩
  unfold cndB at h3;rw [hb] at h3
  simp only [Bool.and_eq_true,beq_iff_eq,decide_eq_true_eq] at h3
  obtain ⟨rfl,h0,hlt⟩:=h3
  have hbm:=List.mem_of_getElem? hb
  obtain ⟨w,hw⟩ : ∃ w,F[u]? = some w:=⟨_,List.getElem?_eq_getElem (by rw [hF.1];exact (he.lt _ hbm).2)⟩
  rw [zc1 hw] at h0 hlt
  rw [zc1 hz] at hlt
  have hge:=yaba hi he hv hG hg hF ht hx hbm hw hz h0 hlt
  unfold plE at hle;rw [hb,hk] at hle
  simp only at hle
  obtain rfl : p = x.to:=by omega
  rw [hb,he.det hi hbm hed]
end
end
section
theorem zow : ∀ (N : Nat) (l : List Nat),l.Nodup -> (∀ x ∈ l,x < N) -> l.length <= N
 | 0,[],_,_ => Nat.le_refl _
 | 0,a :: l,_,h => absurd (h a (by simp)) (Nat.not_lt_zero _)
 | N + 1,l,hn,h => by
  have h1:=zow N (l.erase N) (hn.erase N) fun x hx => by
   have:=(hn.mem_erase_iff).1 hx
   have:=h x this.2
   omega
  rw [List.length_erase] at h1
  split at h1 <;> omega
theorem zwa {l : List Nat} (h : ∀ (i j : Nat) (a : Nat),l[i]? = some a -> l[j]? = some a -> i = j) : l.Nodup:=by
 unfold List.Nodup
 rw [List.pairwise_iff_getElem]
 intro i j hi hj hij he
 have:=h i j l[j] (by rw [List.getElem?_eq_getElem hi,he]) (List.getElem?_eq_getElem hj)
 omega
def bitC : List Bool -> Nat
 | [] => 0
 | b :: l => (if b = true then 1 else 0) + 2 * bitC l
theorem zf6 : ∀ l,bitC l < 2 ^ l.length
 | [] => by simp [bitC]
 | b :: l => by
  have:=zf6 l
  rw [bitC,List.length_cons,Nat.pow_succ]
  split <;> omega
theorem zjk : ∀ (l m : List Bool),l.length = m.length -> bitC l = bitC m -> l = m
 | [],[],_,_ => rfl
 | [],a :: m,h,_ => by simp at h
 | a :: l,[],h,_ => by simp at h
 | a :: l,b :: m,h,he => by
  rw [bitC,bitC] at he
  have h1 : bitC l = bitC m:=by split at he <;> split at he <;> omega
  have h2 : a = b:=by cases a <;> cases b <;> simp at he ⊢ <;> omega
  rw [h2,zjk l m (by simpa using h) h1]
section
variable {α : Type}
theorem TInv.len {P : α -> Prop} {nx : α -> Nat -> Option α} {L : List (TS α)} {t N : Nat} (h : TInv nx L t) (hP : ∀ (j : Nat) (a : TS α),L[j]? = some a -> P a.now) (code : α -> Nat) (hinj : ∀ x y,P x -> P y -> code x = code y -> x = y) (hlt : ∀ x,P x -> code x < N) : L.length <= N:=by
 have:=zow N (L.map fun t => code t.now) (zwa fun i j a hi hj => by
  rw [List.getElem?_map,Option.map_eq_some_iff] at hi hj
  obtain ⟨x,hx,hxa⟩:=hi
  obtain ⟨y,hy,hya⟩:=hj
  exact h.nd i j x y hx hy (hinj _ _ (hP i x hx) (hP j y hy) (hxa.trans hya.symm))) fun c hc => by
   obtain ⟨x,hx,rfl⟩:=List.mem_map.1 hc
   obtain ⟨j,hj⟩:=List.getElem?_of_mem hx
   exact hlt _ (hP j x hj)
 rwa [List.length_map] at this
end
section
theorem yaad {P : SiD -> Prop} {k p : Nat} {L : List (TS SiD)} {y : SiD} (h : ∀ (j : Nat) (a : TS SiD),L[j]? = some a -> P a.now) (hy : P y) : ∀ (j : Nat) (a : TS SiD),(tins k L p y)[j]? = some a -> P a.now:=by
 unfold tins;split
 ·exact h
 ·intro j a ha
  rcases zdg ha with ha | ⟨_,rfl⟩
  ·exact h j a ha
  ·exact hy
theorem zi4 {P : SiD -> Prop} {nx : SiD -> Nat -> Option SiD} {k : Nat} {s : SiD} {L : List (TS SiD)} (hs : ∀ s p y,P s -> nx s p = some y -> P y) (h0 : P s) (h : ∀ (j : Nat) (a : TS SiD),L[j]? = some a -> P a.now) : ∀ p (j : Nat) (a : TS SiD),(tin nx k s p L)[j]? = some a -> P a.now
 | 0 => h
 | p + 1 => by
  rw [tin];split
  ·rename_i y hy;exact yaad (zi4 hs h0 h p) (hs s p y h0 hy)
  ·exact zi4 hs h0 h p
theorem zi5 {P : SiD -> Prop} {nx : SiD -> Nat -> Option SiD} {s0 : SiD} (h0 : P s0) (hs : ∀ s p y,P s -> nx s p = some y -> P y) : ∀ k (j : Nat) (a : TS SiD),(tou nx s0 k)[j]? = some a -> P a.now
 | 0 => fun j a ha => by
  have hj:=(List.getElem?_eq_some_iff.1 ha).1
  simp [tou] at hj
  subst hj
  simp [tou] at ha
  rw [<- ha];exact h0
 | k + 1 => by
  rw [tou];split
  ·rename_i a ha;exact zi4 hs (zi5 h0 hs k k a ha) (zi5 h0 hs k) 9
  ·exact zi5 h0 hs k
end
end
section
set_option maxRecDepth 4000
open Go.RowKit
open Go.Lib (below_setCells)
theorem znw {P : Program} (w : World) (d : Nat) {e : TypeId} (he : P.underlying e = some .bool) (xs ys : List Bool) : ∀ (is : List Nat),(∀ i ∈ is,i < xs.length /\ i < ys.length) ->
  (Op.eqItems (d + 1) e 1 (xs.map Value.bool).toArray (ys.map Value.bool).toArray is).run P w = .ok (is.all fun i => xs.getD i false == ys.getD i false) w
 | [],_ => by simp [Op.eqItems]
 | i :: is,h => by
  obtain ⟨h1,h2⟩:=h i (by simp)
  have ih:=znw w d he xs ys is (fun j hj => h j (by simp [hj]))
  have hp : P.plainKey e = true:=by simp [Program.plainKey,he]
  have p1:=run_part_plain (P:=P) w hp (xs:=(xs.map Value.bool).toArray) (off:=i * 1) (v:=.bool xs[i]) (by simp [h1])
  have p2:=run_part_plain (P:=P) w hp (xs:=(ys.map Value.bool).toArray) (off:=i * 1) (v:=.bool ys[i]) (by simp [h2])
  have e1 : xs.getD i false = xs[i]:=by simp [List.getD,h1]
  have e2 : ys.getD i false = ys[i]:=by simp [List.getD,h2]
  simp only [Op.eqItems,Sem.run_bind,p1,p2,Result.andThen_ok,run_equalIn_bool w d e _ _ he,List.all_cons,e1,e2]
  cases hb : xs[i] == ys[i] with
  | true => simpa using ih
  | false => simp
theorem zsu {xs ys : List Bool} (hx : xs.length = 9) (hy : ys.length = 9) : ((List.range 9).all fun i => xs.getD i false == ys.getD i false) = decide (xs = ys):=by
 by_cases h : xs = ys
 ·subst h;simp
 ·rw [decide_eq_false h]
  cases hc : (List.range 9).all fun i => xs.getD i false == ys.getD i false with
  | false => rfl
  | true =>
   refine absurd (List.ext_getElem (by omega) fun i h1 h2 => ?_) h
   have:=List.all_eq_true.1 hc i (List.mem_range.2 (by omega))
   simpa [List.getD,h1,h2] using this
theorem Tryz.cellsBool : Tryz.prog.cellsOf 4 = 1:=by kernel_rfl
theorem Tryz.infoB : ∃ i,Tryz.prog.info? 4 = some i:=info_of_underlying Tryz.underlying4
theorem zlj (w : World) (d : Nat) {xs ys : List Bool} (hx : xs.length = 9) (hy : ys.length = 9) :
  (Op.equalIn (d + 2) 49 (.agg (xs.map Value.bool).toArray) (.agg (ys.map Value.bool).toArray)).run Tryz.prog w = .ok (decide (xs = ys)) w:=by
 obtain ⟨i,hi⟩:=Tryz.infoB
 rw [run_equalIn_array w (d + 1) _ _ Tryz.underlying49 hi,Tryz.cellsBool,znw w d Tryz.underlying4 xs ys _ (fun j hj => by have:=List.mem_range.1 hj;omega),zsu hx hy]
theorem Tryz.infoSet2 : ∃ i,Tryz.prog.info? 49 = some i:=info_of_underlying Tryz.underlying49
theorem Tryz.cellsSet : Tryz.prog.cellsOf 49 = 9:=by kernel_rfl
theorem zk8 (w : World) {cs : Array Value} {off : Nat} : (part 49 cs off).run Tryz.prog w = .ok (.agg (cs.extract off (off + 9))) w:=by
 obtain ⟨i,hi⟩:=Tryz.infoSet2
 simp [part,isAgg,run_underlying Tryz.underlying49,run_sizeOf w hi,Tryz.cellsSet]
theorem zqv {s : SiD} (h : s.ok) : s.cells.toArray.extract 0 9 = (s.has.map Value.bool).toArray /\ s.cells.toArray.extract 9 18 = (s.had.map Value.bool).toArray:=by
 obtain ⟨h1,h2⟩:=h
 unfold SiD.cells
 rw [List.map_append]
 constructor
 ·apply Array.toList_inj.1
  rw [Array.toList_extract];simp [List.extract,h1]
 ·apply Array.toList_inj.1
  rw [Array.toList_extract];simp [List.extract,h1]
  exact List.take_of_length_le (by simp [h2])
theorem yaaj {α : Type} {l : List α} (h : l.length = 2) : ∃ f g,l = [f,g]:=by
 match l,h with
 | [f,g],_ => exact ⟨f,g,rfl⟩
theorem zzh (w : World) (d : Nat) {s t : SiD} (hs : s.ok) (ht : t.ok) :
  (Op.equalIn (d + 3) 106 (.agg s.cells.toArray) (.agg t.cells.toArray)).run Tryz.prog w = .ok (zg3 s t) w:=by
 have hm : (Tryz.prog.fieldsOf 106).toList.map (fun f => (f.name, f.type, f.offset)) = [("has", 49, 0), ("had", 49, 9)] := by kernel_rfl
 have hu : Tryz.prog.underlying 106 = some (.struct (Tryz.prog.fieldsOf 106)):=by kernel_rfl
 rw [run_equalIn_struct w (d + 2) 106 _ _ hu (by kernel_rfl)]
 generalize (Tryz.prog.fieldsOf 106).toList = l at hm
 obtain ⟨f,g,rfl⟩:=yaaj (by simpa using congrArg List.length hm)
 simp only [List.map_cons,List.map_nil,List.cons.injEq,Prod.mk.injEq,and_true] at hm
 obtain ⟨⟨f1,f2,f3⟩,g1,g2,g3⟩:=hm
 have hn1 : f.name ≠ "_" := by rw [f1]; decide
 have hn2 : g.name ≠ "_" := by rw [g1]; decide
 obtain ⟨c1,c2⟩:=zqv hs
 obtain ⟨d1,d2⟩:=zqv ht
 have p1:=zk8 w (cs:=s.cells.toArray) (off:=9)
 have p2:=zk8 w (cs:=t.cells.toArray) (off:=9)
 rw [show 9 + 9 = 18 from rfl,c2] at p1
 rw [show 9 + 9 = 18 from rfl,d2] at p2
 simp only [Op.eqFields,if_pos hn1,if_pos hn2,f2,f3,g2,g3,Sem.run_bind,zk8,Nat.zero_add,c1,d1,zlj w d hs.1 ht.1,Result.andThen_ok]
 unfold zg3
 have q:=zlj w d hs.2 ht.2
 cases decide (s.has = t.has) with
 | false => simp
 | true =>
  simp only [Bool.not_true,Bool.false_eq_true,if_false,Sem.run_bind,p1,p2,q,Result.andThen_ok,Bool.true_and]
  cases decide (s.had = t.had) <;> simp
theorem zjc {P : Program} {ops : Array Oper} {rest : List Oper} {op : Oper} {a : Act} {w : World} {Q : Exit -> Act -> World -> Prop} (hgd : op.guard = none) (t u : TypeId) (x y : Operand) (ho : op.op = .binOp .eql t x y u) (xs ys : Array Value) (hx : a.eval x = .agg xs) (hy : a.eval y = .agg ys) (hm : P.eqGuardType P.depth t = false) (r : Bool) (he : (Op.equalIn 10000 t (.agg xs) (.agg ys)).run P w = .ok r w)
  (h : wpList P ops Q rest (a.put op.dst (.bool r)) w) : wpList P ops Q (op :: rest) a w:=by
 refine wpList_plain hgd fun K hK => ?_
 unfold Oper.wp execOp
 simp only [ho,hx,hy,Sem.run_bind,run_eqGuard_agg w .eql t x y xs ys hm,run_eql_struct w t xs ys,he,Result.andThen_ok,Sem.run_pure]
 exact hK _ _ h
end
end Go.Proofs.YtkkekopomiehlaaGreat
