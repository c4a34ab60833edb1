import Derived.Test.YtkkekopomiehlaaGreatCRq2
import Derived.Test.YtkkekopomiehlaaGreatCSp7
set_option linter.unusedVariables false
set_option linter.unusedSimpArgs false
set_option maxHeartbeats 40000000
namespace Go.Proofs.YtkkekopomiehlaaGreat
section
set_option maxRecDepth 8000
open Go.RowKit
open Go.Lib (below_setCells)
theorem Sy.drew {w3 : World} {yb : Nat} {x : SE} {a r sN sH : Nat} {wr : World} {vN vH : Value} (h : Sy w3 yb x a r sN sH wr vN vH) : Sy w3 yb x a r sN sH wr.drew vN vH:=⟨h.row,h.oN.drew,h.oH.drew,h.dis,h.bel.drew⟩
def nwF (f : zae) : List Nat:=(List.range f.vs.length).map fun s => (nowI f s).toNat
def hdF (f : zae) : List Nat:=(List.range f.vs.length).map fun s => 2 ^ (nowI f s).toNat
def seF (f : zae) : SE:=⟨0,0,0,0,nwF f,hdF f,-1⟩
theorem zwd {f : zae} {s : Nat} (hs : s < f.vs.length) (h3 : f.vs.length <= 3) : nowS (nwF f) 1000 0 (s + 1) = nowS (nwF f) 1000 0 s ++ [(nowI f s).toNat]:=by
 unfold nwF;rw [zox,if_neg (by omega),zbp (zd2 hs)]
theorem zut {f : zae} {s : Nat} (hs : s < f.vs.length) (h3 : f.vs.length <= 3) : hadS (hdF f) 1000 0 (s + 1) = hadS (hdF f) 1000 0 s ++ [2 ^ (nowI f s).toNat]:=by
 unfold hdF;rw [zn6,if_neg (by omega),zbp (zd2 hs)]
theorem zjt {w : World} {g k b o : Nat} {v u : Value} (hb : g ≠ b) (h : w.cell? ⟨b,o,none⟩ = some v) : (w.setCell ⟨g,k,none⟩ u).cell? ⟨b,o,none⟩ = some v:=by
 rw [World.cell?_setCell_other (h:=fun e => hb (by cases e;rfl))];exact h
theorem zf8 {w : World} {g b o : Nat} {v u0 u1 u2 : Value} (hb : g ≠ b) (h : w.cell? ⟨b,o,none⟩ = some v) : (((w.setCell ⟨g,0,none⟩ u0).setCell ⟨g,1,none⟩ u1).setCell ⟨g,2,none⟩ u2).cell? ⟨b,o,none⟩ = some v:=zjt hb (zjt hb (zjt hb h))
theorem yabf {P : Program} {ops : Array Oper} {rest : List Oper} {op : Oper} {a : Act} {w : World} {Q : Exit -> Act -> World -> Prop} (ty : TypeId) (x y : Operand) (ho : op.op = .store ty x y) (h : wpList P ops Q (op :: rest) a w) : wpList P ops Q (op :: rest) a w:=h
theorem yabe {P : Program} {ops : Array Oper} {rest : List Oper} {op : Oper} {a : Act} {w : World} {Q : Exit -> Act -> World -> Prop} (ty : TypeId) (x : Operand) (ho : op.op = .load ty x) (h : wpList P ops Q (op :: rest) a w) : wpList P ops Q (op :: rest) a w:=h
theorem zwc {f : zae} (h3 : f.vs.length <= 3) : nowS (nwF f) 1000 0 f.vs.length = nwF f:=by
 unfold nowS nwF
 refine List.map_congr_left fun i hi => ?_
 have hi:=List.mem_range.1 hi
 rw [if_neg (by omega),zbp (zd2 hi)]
theorem zus {f : zae} (h3 : f.vs.length <= 3) : hadS (hdF f) 1000 0 f.vs.length = hdF f:=by
 unfold hadS hdF
 refine List.map_congr_left fun i hi => ?_
 have hi:=List.mem_range.1 hi
 rw [if_neg (by omega),zbp (zd2 hi)]
theorem Rc.start {f : zae} (ho : Ord f) {w w6 w7 : World} {ga ca gb cb : Nat} {va : Value} (hb6 : Below w.heap.size w w6) (ra : w6.rangeAt ga 0 (natC (nwF f))) (rb : w6.rangeAt gb 0 (natC (hdF f))) (o : Obj) (ho6 : o = .cells #[.slice (some ⟨ga,0,none⟩) f.vs.length ca,.slice (some ⟨gb,0,none⟩) f.vs.length cb,.int .i64 (-1)] 83) (hb7 : Below (w6.alloc o).heap.size (w6.alloc o) w7)
  (hpa : w7.ownsRow (w6.alloc o).heap.size 64 2 va (prs f.vs).length (prC (prs f.vs))) :
  ∃ aa cc,va = .slice aa (prs f.vs).length cc /\ Rc f w w7 w6.heap.size 1 [⟨ga,ca,gb,cb,nwF f,hdF f,-1⟩] (.slice none 0 0) [] (touS (zad f) 0) [(aa,prs f.vs)]:=by
 have hvs1:=ho.vs1
 have la : ga < w6.heap.size:=zfr ra (by rw [zfh];simp [nwF];omega)
 have lb : gb < w6.heap.size:=zfr rb (by rw [zfh];simp [hdF];omega)
 have z7:=hb7.size
 have z6:=hb6.size
 rw [za2] at z7
 obtain ⟨aa,cc,hva,hpr⟩:=zla hpa rfl
 refine ⟨aa,cc,hva,?_,?_,?_,World.ownsRow_nil _ _ _ _,(fun e => by cases e),?_,?_,thn3 (thn3 hb6 (belS _ _)) hb7⟩
 ·subst ho6
  have:=World.ownsRow_lit (base:=w.heap.size) (e:=83) (size:=3) w6 #[.slice (some ⟨ga,0,none⟩) f.vs.length ca,.slice (some ⟨gb,0,none⟩) f.vs.length cb,.int .i64 (-1)] 1 z6 (by unfold maxLen;omega) rfl
  have:=zbc this hb7
  simpa [sesC,seC,nwF,hdF] using this
 ·intro e he
  simp at he;subst he
  exact (SeAt.keep hb7 (SeAt.keep (belS _ _) ⟨by simp [nwF],by simp [hdF],ra,rb⟩))
 ·intro e he
  simp at he;subst he
  exact ⟨⟨by show ga ≠ _;omega,(fun e => by cases e),by show ga < _;omega⟩,by show gb ≠ _;omega,(fun e => by cases e),by show gb < _;omega⟩
 ·refine ⟨rfl,fun j t e ht he => ?_⟩
  have hj:=(List.getElem?_eq_some_iff.1 he).1
  obtain rfl : j = 0:=by simpa using hj
  simp at he;subst he
  have : t = ⟨begD (zad f),0,0⟩:=by
   have h0:=zlr (nxS (zad f)) (begD (zad f)) 0
   have ht' : (tou (nxS (zad f)) (begD (zad f)) 0)[0]? = some t:=ht
   rw [h0] at ht';simpa using ht'.symm
  subst this
  exact ⟨RQ.start ho,rfl⟩
 ·intro x hx
  simp at hx;subst hx
  refine ⟨hpr,fun b hb => ?_⟩
  subst hva
  simp only at hb
  subst hb
  have:=hpa.lt b rfl
  rw [za2] at this
  exact ⟨by omega,(fun e => by cases e),this.2⟩
theorem Rc.addX {f : zae} {w wr wr' : World} {gl cl : Nat} {l : List SE} {ve : Value} {E : List (Nat × Nat × Nat)} {L : List (TS SiD)} {X : List (Option Addr × List (Nat × Nat))} (h : Rc f w wr gl cl l ve E L X) (hb : Below wr.heap.size wr wr') {a : Option Addr} {ps : List (Nat × Nat)} (hp : PrAt wr' a ps) (hn : ∀ b,a = some ⟨b,0,none⟩ -> gl < b /\ (∀ k,ve.ownBlock = some k -> k < b) /\ b < wr'.heap.size) : Rc f w wr' gl cl l ve E L ((a,ps) :: X):=by
 have h2:=h.keep hb
 refine ⟨h2.own,h2.ses,h2.ne,h2.oe,h2.ge,h2.lr,fun x hx => ?_,h2.bel⟩
 rcases List.mem_cons.1 hx with rfl | hx
 ·refine ⟨hp,fun b hb => ?_⟩
  obtain ⟨h3,h4,h5⟩:=hn b hb
  exact ⟨by omega,(fun e => by have:=h4 b e.symm;omega),h5⟩
 ·exact h2.pr x hx
theorem zrc (nx : SiD -> Nat -> Option SiD) (k : Nat) (s : SiD) : ∀ (ps : List Nat) (L : List (TS SiD)),(tinL nx k s L ps).length <= L.length + ps.length
 | [],L => Nat.le_refl _
 | p :: ps,L => by
  have h:=fun M => zrc nx k s ps M
  show (tinL nx k s (match nx s p with | some y => tins k L p y | none => L) ps).length <= _
  cases nx s p with
  | none => have:=h L;simp only [List.length_cons];omega
  | some y =>
   have h1:=h (tins k L p y)
   have h2 : (tins k L p y).length <= L.length + 1:=by unfold tins;split <;> simp
   simp only [List.length_cons];omega
theorem Tryz.infoSitL : (Tryz.prog.info? 83).map (fun i => (i.zero,i.size,i.bytes)) = some (some (.agg #[.slice none 0 0,.slice none 0 0,.int .i64 0]),3,56):=by kernel_rfl
theorem Tryz.infoEdgL : (Tryz.prog.info? 86).map (fun i => (i.zero,i.size,i.bytes)) = some (some (.agg #[.int .i64 0,.int .i64 0,.int .i64 0,.int .i64 0]),4,32):=by kernel_rfl
structure Yr (n : Nat) (w0 W : World) (yb mb : Nat) (q : Nat × Nat) (x : SE) : Prop where
 row : RowIs W yb 83 [.slice (some ⟨x.a,0,none⟩) n x.ca,.slice (some ⟨x.b,0,none⟩) n x.cb,.int .i64 x.far]
 se : SeAt W n x
 m : RowIs W mb 46 [.int .i64 (q.1 : Int),.int .i64 (q.2 : Int)]
 bel : Below w0.heap.size w0 W
 la : w0.heap.size <= x.a /\ w0.heap.size <= x.b
 lm : w0.heap.size <= mb
theorem Yr.keep {n : Nat} {w0 W W' : World} {yb mb : Nat} {q : Nat × Nat} {x : SE} (h : Yr n w0 W yb mb q x) (hb : Below W.heap.size W W') : Yr n w0 W' yb mb q x:=⟨h.row.keep hb,h.se.keep hb,h.m.keep hb,thn3 h.bel hb,h.la,h.lm⟩
theorem Yr.a {n : Nat} {w0 w13 w14 : World} {mb : Nat} {q : Nat × Nat} {x : SE} (hB : Below w0.heap.size w0 w13) (hm : RowIs w13 mb 46 [.int .i64 (q.1 : Int),.int .i64 (q.2 : Int)]) (lm : w0.heap.size <= mb) {o : Obj} (hb : Below (w13.alloc o).drew.heap.size (w13.alloc o).drew w14) (ry : RowIs w14 w13.heap.size 83 [.slice none 0 0,.slice none 0 0,.int .i64 0]) (hse : SeAt w14 n x) (la : (w13.alloc o).drew.heap.size <= x.a) (lb : (w13.alloc o).drew.heap.size <= x.b) :
  Yr n w0 (((w14.setCell ⟨w13.heap.size,0,none⟩ (.slice (some ⟨x.a,0,none⟩) n x.ca)).setCell ⟨w13.heap.size,1,none⟩ (.slice (some ⟨x.b,0,none⟩) n x.cb)).setCell ⟨w13.heap.size,2,none⟩ (.int .i64 x.far)) w13.heap.size mb q x:=by
 have hz:=hB.size
 have h1 : (w13.alloc o).drew.heap.size = w13.heap.size + 1:=by show (w13.alloc o).heap.size = _;simp
 rw [h1] at la lb
 have hml:=hm.lt
 have hb' : Below w13.heap.size w13 w14:=thn3 (Below.drew (belS w13 o)) hb
 have hB4:=thn3 hB hb'
 have nm : (⟨w13.heap.size,0,none⟩ : Addr).block ≠ mb:=by show w13.heap.size ≠ mb;omega
 refine ⟨((ry.set 0 _).set 1 _).set 2 _,⟨hse.1,hse.2.1,?_,?_⟩,(((hm.keep hb').setOther (by exact nm) _).setOther (by exact nm) _).setOther (by exact nm) _,((hB4.setCell hz _).setCell hz _).setCell hz _,⟨by omega,by omega⟩,lm⟩
 ·exact zdo (zdo (zdo hse.2.2.1 (by show w13.heap.size ≠ _;omega) _) (by show w13.heap.size ≠ _;omega) _) (by show w13.heap.size ≠ _;omega) _
 ·exact zdo (zdo (zdo hse.2.2.2 (by show w13.heap.size ≠ _;omega) _) (by show w13.heap.size ≠ _;omega) _) (by show w13.heap.size ≠ _;omega) _
theorem Yr.b {n : Nat} {w0 w13 w14 : World} {mb : Nat} {q : Nat × Nat} {x : SE} (hB : Below w0.heap.size w0 w13) (hm : RowIs w13 mb 46 [.int .i64 (q.1 : Int),.int .i64 (q.2 : Int)]) (lm : w0.heap.size <= mb) (hb : Below w13.drew.heap.size w13.drew w14) (hse : SeAt w14 n x) (la : w13.drew.heap.size <= x.a) (lb : w13.drew.heap.size <= x.b) :
  Yr n w0 (w14.alloc (.cells #[.slice (some ⟨x.a,0,none⟩) n x.ca,.slice (some ⟨x.b,0,none⟩) n x.cb,.int .i64 x.far] 83)) w14.heap.size mb q x:=by
 have hz:=hB.size
 have h1 : w13.drew.heap.size = w13.heap.size:=rfl
 rw [h1] at la lb
 have hb' : Below w13.heap.size w13 w14:=thn3 (Below.refl _ _).drew hb
 exact ⟨zay w14 _,hse.keep (belS _ _),(hm.keep hb').keep (belS _ _),thn3 (thn3 hB hb') (belS _ _),⟨by omega,by omega⟩,lm⟩
theorem Rc.addQ {f : zae} {w wr : World} {gl cl : Nat} {l : List SE} {ve : Value} {E : List (Nat × Nat × Nat)} {L : List (TS SiD)} {X : List (Option Addr × List (Nat × Nat))} (h : Rc f w wr gl cl l ve E L X) {o : Obj} {w' : World} {g2 c2 a b : Nat} {q : Nat × Nat} (hq : q.2 < 3) (hg : (wr.alloc o).grownBy w' ve.ownBlock) (hown : w'.ownsRow w.heap.size 86 4 (.slice (some ⟨g2,0,none⟩) (E.length + 1) c2) (E.length + 1) (edC E ++ [.int .i64 (a : Int),.int .i64 (b : Int),.int .i64 (q.1 : Int),.int .i64 (q.2 : Int)])) (hat : ve.ownBlock = some g2 \/ g2 = wr.heap.size + 1) :
  Rc f w w' gl cl l (.slice (some ⟨g2,0,none⟩) (E.length + 1) c2) (E ++ [(a,b,plN q)]) L X:=by
 refine h.addE (d:=(a,b,plN q)) hg ?_ hat
 show w'.ownsRow w.heap.size 86 4 _ _ (edC E ++ [.int .i64 (a : Int),.int .i64 (b : Int),.int .i64 ((plN q / 3 : Nat) : Int),.int .i64 ((plN q % 3 : Nat) : Int)])
 rw [show plN q / 3 = q.1 by unfold plN;omega,show plN q % 3 = q.2 by unfold plN;omega]
 exact hown
theorem zrd {nx : SiD -> Nat -> Option SiD} {k p : Nat} {s y : SiD} {L : List (TS SiD)} {ps qs : List Nat} (hq : qs = ps ++ [p]) (hy : nx s p = some y) (ha : ((tinL nx k s L ps).any fun t => zg3 t.now y) = false) : tinL nx k s L qs = tinL nx k s L ps ++ [⟨y,k,p⟩]:=by
 rw [hq,ze6,hy]
 show tins k _ p y = _
 unfold tins;rw [if_neg (by rw [ha];simp)]
theorem zrb {nx : SiD -> Nat -> Option SiD} {k p : Nat} {s y : SiD} {L : List (TS SiD)} {ps qs : List Nat} (hq : qs = ps ++ [p]) (hy : nx s p = some y) (ha : ((tinL nx k s L ps).any fun t => zg3 t.now y) = true) : tinL nx k s L qs = tinL nx k s L ps:=by
 rw [hq,ze6,hy]
 show tins k _ p y = _
 unfold tins;rw [if_pos ha]
theorem EI.new {nx : SiD -> Nat -> Option SiD} {L : List (TS SiD)} {E : List (Nat × Nat × Nat)} {i : Nat} {ps qs : List Nat} (h : EI nx L E i ps) {t : TS SiD} (ht : L[i]? = some t) {p : Nat} (hp9 : p < 9) {y : SiD} (hp : nx t.now p = some y) {n : Nat} (hn : n = L.length) (hq : qs = ps ++ [p]) : EI nx (L ++ [⟨y,i,p⟩]) (E ++ [(i,n,p)]) i qs:=by
 subst hn hq
 have hi:=(List.getElem?_eq_some_iff.1 ht).1
 refine h.add (fun j t h => zfu h) (fun j t hj h => ?_) ht hp9 hp (u:=⟨y,i,p⟩) List.getElem?_concat_length rfl
 rcases zdg h with h | ⟨h,_⟩
 ·exact h
 ·omega
theorem zx3 (f : zae) (ho : Ord f) (sa ta va : Option Addr) (sl sc tl tc vl vc : Nat) (g : Nat) (Em Km : List (List Bool)) (w : World) (hV : LookAt w g sa sl sc ta tl tc va vl vc f Em Km) :
  Calls Tryz.prog 37 #[.pointer (some ⟨g,0,none⟩)] w fun e W => ∃ (gl cl : Nat) (l : List SE) (ve : Value) (E : List (Nat × Nat × Nat)),e = .returned (.tuple #[.slice (some ⟨gl,0,none⟩) l.length cl,ve]) /\ Rc f w W gl cl l ve E (zav (zad f)) [] /\ EdgesOk (nxS (zad f)) (zav (zad f)) E /\ E.length <= 9 * l.length:=by
 obtain ⟨ii,hii,hz0,hzz1,hzz2⟩:=info_parts Tryz.infoInt1
 have hv1:=hV.fl.v1
 have h3:=ho.vs3
 have hS0 : Sy w w.heap.size (seF f) 1000 0 0 0 (w.alloc (.cells #[.slice none 0 0,.slice none 0 0,.int .i64 0] 83)) (.slice none 0 0) (.slice none 0 0) :=
  ⟨zay w _,World.ownsRow_nil _ _ _ _,World.ownsRow_nil _ _ _ _,.inl ⟨rfl,rfl⟩,belS _ _⟩
 have HS0:= zab hS0
 have HV:= zab hV
 have HO:= zab ho
 have c2:=hV.c2
 obtain ⟨v1a,v1b⟩ : vl <= f.vs.length /\ f.vs.length <= vl:=by omega
 clear hS0 hV ho hv1
 go_enter Tryz.func37,Tryz.ntmps37
 go_wp2_with fail
 go_loopw [5] (fun vs wr => ∃ (s : Nat) (vN vH : Value),s <= vl /\ vs = .int .i64 s /\ Hid (Sy w w.heap.size (seF f) 1000 0 s s wr vN vH)) (fun s _ => vl - (intOf s).toNat)
 case atStart => exact ⟨0,_,_,Nat.zero_le _,rfl,HS0⟩
 case round =>
  clear HS0
  obtain ⟨s,vN,vH,hs,rfl,HS⟩:=hrel
  rename World => w5
  have hb:=HS.out.bel
  have z5:=hb.size
  have zy:=HS.out.row.lt
  have d2:=zaa hb c2
  have y0:=HS.out.row.cell (j:=0) rfl
  have y1:=HS.out.row.cell (j:=1) rfl
  have hx0 := znn s
  by_cases hlt : s < vl
  ·obtain ⟨v,hv⟩ : ∃ v,f.vs[s]? = some v:=⟨f.vs[s]'(by omega),List.getElem?_eq_getElem (by omega)⟩
   obtain ⟨b,o,ra,rl,rc,rfl,_,q1,_,_,_⟩:=HV.out.fl.v3 s v hv
   have hrl:=HO.out.rl (s:=s) (by omega)
   obtain ⟨nn,hnn⟩ : ∃ nn : Nat,nowI f s = nn:=⟨(nowI f s).toNat,by omega⟩
   rw [<- zia hv,hnn] at q1
   have hn3 : nn < 3:=by omega
   have hbl:=zaf q1
   have Q1:= zab q1
   have q1:=zaa hb q1
   have n1:=zwd (f:=f) (s:=s) (by omega) h3
   have h1:=zut (f:=f) (s:=s) (by omega) h3
   rw [hnn,Int.toNat_natCast] at n1 h1
   have hx1 : (s : Int) < (vl : Int):=by omega
   obtain ⟨pw,hpw⟩ : ∃ pw,pw = 2 ^ nn:=⟨_,rfl⟩
   have hwr : IntKind.i64.wrap ((2 : Int) ^ nn) = (pw : Int):=by subst hpw;rcases lt3 hn3 with rfl | rfl | rfl <;> rfl
   rw [<- hpw] at h1
   have N1:= zab n1
   have H1:= zab h1
   have hne1 : some w.heap.size ≠ vN.ownBlock:=fun e => HS.out.n1 e.symm
   have hne2 : some b ≠ vN.ownBlock:=fun e => by have:=(HS.out.oN.lt b e.symm).1;omega
   have hne3 : some g ≠ vN.ownBlock:=fun e => by have:=(HS.out.oN.lt g e.symm).1;have:=zaf c2;omega
   have lg:=zaf c2
   have hfz:=HS.out.row.frozen 0
   clear n1 h1 hnn hrl hpw
   go_wp2_with fail
   go_region_law (first | (refine step_append_lies _ (by rfl) _ _ _ (by rfl) (w.heap.size + 1) 3 ii _ 1 8 Tryz.underlying81 hii hz0 hzz1 hzz2 rfl (by omega) vN s _ (by rfl) (HS.out.oN.drew.alloc _) ⟨w5.heap.size,0,none⟩ 1 1 [.int .i64 (nn : Int)] (by rfl) (by rfl) (World.news_of_block (heap_alloc_new w5.drew _)) (by simp [Value.oneCell']) (by omega) (by unfold maxLen;omega) (by omega) (by simp;omega) (w5.heap.size + 1) (by simp) ?_;intro g1 cap1 w6 hown1 hgrow1 hat1 hlt1;have k0:=hgrow1.cell (zaw _ y0) hne1;have k1:=hgrow1.cell (zaw _ q1) hne2;have k2:=hgrow1.cell (zaw _ d2) hne3;have f0:=((HS.out.drew.row.keep (belS _ _)).grown hgrow1 HS.out.n1).frozen 0))
   all_goals
    have S7:=HS.out.drew.app1 N1.out hown1 hgrow1 hat1
    have z7 : w5.heap.size <= (w6.setCell ⟨w.heap.size,0,none⟩ (.slice (some ⟨g1,0,none⟩) (s + 1) cap1)).heap.size:=by have:=hgrow1.size;simp [World.setCell] at this ⊢;omega
    generalize (w6.setCell ⟨w.heap.size,0,none⟩ (.slice (some ⟨g1,0,none⟩) (s + 1) cap1)) = w7 at S7 z7 ⊢
    have S7:= zab S7
    clear hown1 hgrow1 hat1 hlt1 k0 k1 k2 f0 y0 y1 d2 q1 hne1 hne2 hne3 hfz
    have hb7:=S7.out.bel
    have zy7:=S7.out.row.lt
    have zb7 : b < w7.heap.size:=by omega
    have zg7 : g < w7.heap.size:=by omega
    have d2:=zaa hb7 c2
    have q1:=zaa hb7 Q1.out
    have y0:=S7.out.row.cell (j:=1) rfl
    have hne1 : some w.heap.size ≠ vH.ownBlock:=fun e => S7.out.n2 e.symm
    have hne2 : some b ≠ vH.ownBlock:=fun e => by have:=(S7.out.oH.lt b e.symm).1;omega
    have hne3 : some g ≠ vH.ownBlock:=fun e => by have:=(S7.out.oH.lt g e.symm).1;omega
    go_wp2_with fail
    go_region_law (first | (refine step_append_lies _ (by rfl) _ _ _ (by rfl) (w.heap.size + 1) 3 ii _ 1 8 Tryz.underlying81 hii hz0 hzz1 hzz2 rfl (by omega) vH s _ (by rfl) (S7.out.oH.drew.alloc _) ⟨w7.heap.size,0,none⟩ 1 1 [.int .i64 (pw : Int)] (by rfl) (by rfl) (World.news_of_block (heap_alloc_new w7.drew _)) (by simp [Value.oneCell']) (by omega) (by unfold maxLen;omega) (by omega) (by simp;omega) (w7.heap.size + 1) (by simp) ?_;intro g2 cap2 w8 hown2 hgrow2 hat2 hlt2;have k0:=hgrow2.cell (zaw _ y0) hne1;have k1:=hgrow2.cell (zaw _ q1) hne2;have k2:=hgrow2.cell (zaw _ d2) hne3;have f0:=((S7.out.drew.row.keep (belS _ _)).grown hgrow2 S7.out.n2).frozen 1))
    all_goals
     have S9:=(zab (S7.out.drew.app2 H1.out hown2 hgrow2 hat2))
     go_wp2_with fail
     go_roundw
     case rel => exact ⟨s + 1,_,_,by omega,by go_num,S9⟩
     case measure => simp [intOf];omega
  ·obtain rfl : s = vl:=by omega
   have hvs1:=HO.out.vs1
   obtain ⟨ga,ca,rfl⟩:=zez HS.out.oN (by omega)
   obtain ⟨gb,cb,rfl⟩:=zez HS.out.oH (by omega)
   have hsv : s = f.vs.length:=by omega
   have lA:=HS.out.oN.lt ga rfl
   have lB:=HS.out.oH.lt gb rfl
   have t2:=HS.out.row.there (j:=2) (by simp)
   have rA:=zc2 HS.out.oN
   have rB:=zc2 HS.out.oH
   have eN : nowS (seF f).now 1000 0 s = nwF f:=by rw [hsv];exact zwc h3
   have eH : hadS (seF f).had 1000 0 s = hdF f:=by rw [hsv];exact zus h3
   rw [eN] at rA
   rw [eH] at rB
   have hR : (fun W : World => RowIs W w.heap.size 83 [.slice (some ⟨ga,0,none⟩) s ca,.slice (some ⟨gb,0,none⟩) s cb,.int .i64 (-1)] /\ W.rangeAt ga 0 (natC (nwF f)) /\ W.rangeAt gb 0 (natC (hdF f)) /\ Below w.heap.size w W) (w5.setCell ⟨w.heap.size,2,none⟩ (.int .i64 (-1))) :=
    ⟨HS.out.row.set 2 _,zdo rA (by simp;omega) _,zdo rB (by simp;omega) _,hb.setCell (Nat.le_refl _) _⟩
   have HR:= zab hR
   have hi3 : (Tryz.prog.info? 83).map (·.size) = some ([.slice (some ⟨ga,0,none⟩) s ca,.slice (some ⟨gb,0,none⟩) s cb,.int .i64 (-1)] : List Value).length:=Tryz.infoSitu
   have hpairs:=fun (W : World) (h : Below w.heap.size w W) => zpm f sa ta va sl sc tl tc s vc W (HV.out.fl.keep h) h3 (fun v hv => (HO.out.parts hv).2.1)
   have C0:= zab HV.out.c0
   have C1:= zab HV.out.c1
   have HSV:= zab hsv
   clear hR rA rB eN eH hb y0 y1 hsv
   go_wp2_with (first
    | (refine yabf 3 _ _ rfl ?_;refine zd6 rfl 3 _ _ rfl w.heap.size 2 _ rfl rfl t2 Tryz.infoIntC rfl (fun W => RowIs W w.heap.size 83 [.slice (some ⟨ga,0,none⟩) s ca,.slice (some ⟨gb,0,none⟩) s cb,.int .i64 (-1)] /\ W.rangeAt ga 0 (natC (nwF f)) /\ W.rangeAt gb 0 (natC (hdF f)) /\ Below w.heap.size w W) HR.out ?_;rintro w6 ⟨r6,ra6,rb6,hb6⟩;have q6:=zbr r6;have b60:=zaa hb6 C0.out;have b61:=zaa hb6 C1.out;have b62:=zaa hb6 c2;have l60:=zaf b60;simp only [Act.put,List.setIfInBounds_toArray,List.set_cons_zero,List.set_cons_succ,List.getElem_toArray,List.getElem_cons_zero,List.getElem_cons_succ])
    | (have hq:=q6;refine yabe 83 _ rfl ?_;refine wpList_load_mid (w:=w6) rfl 83 _ rfl w.heap.size 0 rfl _ _ q6 Tryz.underlying83 rfl hi3 ?_;simp only [Act.put,List.setIfInBounds_toArray,List.set_cons_zero,List.set_cons_succ,List.getElem_toArray,List.getElem_cons_zero,List.getElem_cons_succ])
    | (go_at_call 57;refine (hpairs _ (thn3 hb6 (belS _ _))).mono ?_;rintro e w7 ⟨vA,rfl,hpa,hb7⟩))
   have hsv:=HSV.out
   clear HSV
   subst hsv
   obtain ⟨aa,cc,rfl,hRc⟩:=Rc.start HO.out hb6 ra6 rb6 _ rfl hb7 hpa
   have HRc:= zab hRc
   clear hRc hpa hb7 ra6 rb6 r6 q6 b60 b61 b62 hpairs HR t2 lA lB HS z5 zy
   go_loopw [6,7,9] (fun vl' ve vi wr => ∃ (i gl cl : Nat) (l : List SE) (E : List (Nat × Nat × Nat)),vi = .int .i64 i /\ vl' = .slice (some ⟨gl,0,none⟩) l.length cl /\ i <= (touS (zad f) i).length /\ E.length <= 9 * i /\ Hid (Rc f w wr gl cl l ve E (touS (zad f) i) [(aa,prs f.vs)]) /\ Hid (EI (nxS (zad f)) (touS (zad f) i) E i [])) (fun _ _ vi _ => 262145 - (intOf vi).toNat)
   case atStart => exact ⟨0,w6.heap.size,1,_,[],rfl,rfl,Nat.zero_le _,Nat.le_refl _,HRc,⟨fun a b p h => by simp at h,fun a t p y _ _ _ h => by rcases h with h | h;omega;simp at h⟩⟩
   case round =>
    clear HRc hb6 l60
    obtain ⟨i,gl,cl,l,E,rfl,rfl,hil,hEi,HRc,HEI⟩:=hrel
    rename World => w8
    have hll:=HRc.out.lr.len
    have hTl:=zej (zb5 f) hil
    have hx0 := znn i
    have z8:=HRc.out.bel.size
    by_cases hlt : i < l.length
    ·obtain ⟨t,ht⟩ : ∃ t,(touS (zad f) i)[i]? = some t:=⟨_,List.getElem?_eq_getElem (by omega)⟩
     obtain ⟨e,he,hrq,hfar⟩:=HRc.out.lr.get ht
     have hem:=List.mem_of_getElem? he
     obtain ⟨k0,k1,k2⟩:=zeg (zc2 HRc.out.own) he
     have hse:=HRc.out.ses e hem
     rw [hse.1] at k0
     rw [hse.2.1] at k1
     have hls:=fun (W : World) (h : Below w8.heap.size w8 W) => zvn e f.vs.length h3 W (hse.keep h) (fun b hb => by obtain ⟨j,hj⟩:=List.getElem?_of_mem hb;exact hrq.h8 j b hj)
     have hx1 : (i : Int) < (l.length : Int):=by omega
     obtain ⟨lg1,lg2⟩:=HRc.out.own.lt gl rfl
     have HT:= zab ht
     have HHE:= zab he
     have HRQ:= zab hrq
     have HLL:= zab hll
     have hl2 : l.length <= 262144:=by omega
     clear ht he hrq hse hem hll hfar
     go_wp2_with (go_at_call 62;refine (hls _ (Below.refl _ _)).mono ?_;rintro e' w9 ⟨uN,uP,rfl,hoN,hoP,hb9⟩)
     obtain ⟨na,nc,rfl,hpn⟩:=zla hoN (zoz e f.vs.length)
     obtain ⟨pa,pc,rfl,hpp⟩:=zla hoP rfl
     have z9:=hb9.size
     have hR1:=HRc.out.addX hb9 hpn (fun b hb => by
      subst hb
      have:=hoN.lt b rfl
      exact ⟨by omega,(fun k hk => by have:=(HRc.out.oe.lt k hk).2;omega),this.2⟩)
     have hR2:=hR1.addX (Below.refl _ _) hpp (fun b hb => by
      subst hb
      have:=hoP.lt b rfl
      exact ⟨by omega,(fun k hk => by have:=(HRc.out.oe.lt k hk).2;omega),this.2⟩)
     have HR2:= zab hR2
     clear hR1 hR2 hpn hpp hoN hoP hls k0 k1 k2 HRc hb9
     go_loopw [6,7,12] (fun vl' ve vk wr => ∃ (k gl cl : Nat) (l : List SE) (E : List (Nat × Nat × Nat)),k <= (prs f.vs).length /\ vk = .int .i64 k /\ vl' = .slice (some ⟨gl,0,none⟩) l.length cl /\ E.length <= 9 * i + k /\ Hid (l[i]? = some e) /\ Hid (Rc f w wr gl cl l ve E (tinL (nxS (zad f)) i t.now (touS (zad f) i) (((prs f.vs).map plN).take k)) [(pa,psL e f.vs.length),(na,nwL e f.vs.length),(aa,prs f.vs)]) /\ Hid (EI (nxS (zad f)) (tinL (nxS (zad f)) i t.now (touS (zad f) i) (((prs f.vs).map plN).take k)) E i (((prs f.vs).map plN).take k))) (fun _ _ vk _ => (prs f.vs).length - (intOf vk).toNat)
     case atStart => exact ⟨0,gl,cl,l,E,Nat.zero_le _,rfl,rfl,by omega,HHE,HR2,HEI⟩
     case round =>
      clear HR2 HEI HHE HLL hl2 hlt hx1 lg1 lg2 hEi
      obtain ⟨k,gl2,cl2,l2,E2,hk,rfl,rfl,hEk,HHE,HRc,HEI⟩:=hrel
      rename World => w10
      have hk0 := znn k
      have hpl9:=zp1 h3 (fun v hv => (HO.out.parts hv).2.1)
      by_cases hlt : k < (prs f.vs).length
      ·obtain ⟨q,hqk⟩ : ∃ q,(prs f.vs)[k]? = some q:=⟨(prs f.vs)[k],List.getElem?_eq_getElem hlt⟩
       have hqm:=List.mem_of_getElem? hqk
       obtain ⟨qv,qp,hqv,hqp⟩:=zkh hqm
       have hq1 : q.1 < f.vs.length:=(List.getElem?_eq_some_iff.1 hqv).1
       have hq2 : q.2 < rlen f.vs q.1:=by rw [zlg hqv];exact (List.getElem?_eq_some_iff.1 hqp).1
       have hq3 : q.2 < 3:=by have:=HO.out.rl hq1;omega
       obtain ⟨bp,hbp,p1,p2⟩:=(HRc.out.pr (aa,prs f.vs) (by simp)).1 k q hqk
       simp only at hbp
       subst hbp
       have hnx:=HRQ.out.nx HO.out hqm hq1 hq2
       have htk : ((prs f.vs).map plN).take (k + 1) = ((prs f.vs).map plN).take k ++ [plN q]:=by rw [List.take_add_one,List.getElem?_map,hqk];rfl
       have hLi:=zre (nx:=nxS (zad f)) (k:=i) (s:=t.now) (((prs f.vs).map plN).take k) _ HT.out
       have hpsl:=zld e f.vs.length
       have hnwl:=zoz e f.vs.length
       have hsafe:=fun (W : World) (h : Below w10.heap.size w10 W) => zyg f HO.out sa ta va sl sc tl tc f.vs.length vc g Em Km W ((HV.out.keep HRc.out.bel).keep h) q hqm (nwL e f.vs.length) (psL e f.vs.length) HRQ.out.now_prs HRQ.out.past_prs na pa nc pc (by omega) (by omega) ((HRc.out.pr (na,nwL e f.vs.length) (by simp)).1.keep h) ((HRc.out.pr (pa,psL e f.vs.length) (by simp)).1.keep h)
       rw [hnwl] at hsafe
       have hk1 : (k : Int) < ((prs f.vs).length : Int):=by omega
       have z10:=zaf p1
       obtain ⟨c0,c1,c2'⟩:=zeg (zc2 HRc.out.own) HHE.out
       have hem:=List.mem_of_getElem? HHE.out
       have hse:=HRc.out.ses e hem
       rw [hse.1] at c0
       obtain ⟨y,hy⟩ : ∃ y,e.now[q.1]? = some y:=⟨e.now[q.1]'(by rw [hse.1];exact hq1),List.getElem?_eq_getElem _⟩
       have cy:=zec hse.2.2.1 hy
       rw [zbp hy] at hnx
       have hil2:=(List.getElem?_eq_some_iff.1 HHE.out).1
       have hll2:=HRc.out.lr.len
       have HNX:= zab hnx
       have HTK:= zab htk
       have HLI:= zab hLi
       have HSE:= zab hse
       have HQM:= zab hqm
       have HY:= zab hy
       have HLL2:= zab hll2
       have y1' : (q.1 : Int) < (f.vs.length : Int):=by omega
       have y0' : (0 : Int) <= (q.1 : Int):=Int.natCast_nonneg _
       have i1' : (i : Int) < (l2.length : Int):=by omega
       clear hnx htk hLi hse hem hqm hqv hqp hqk hy hll2 hpsl hnwl
       cases hsb : sfeB f q (nwL e f.vs.length) (psL e f.vs.length) with
       | false =>
        rw [hsb] at hsafe
        have hnn : nxS (zad f) t.now (plN q) = none:=by rw [HNX.out,hsb,if_neg (fun h => by cases h.1)]
        have HNN:= zab hnn
        clear hnn hsb HNX
        go_wp2_with (go_at_call 33;refine (hsafe _ (Below.refl _ _)).mono ?_;rintro e' w11 ⟨rfl,hb11⟩)
        go_quiet (fail)
        go_wp2_with fail
        go_roundw
        case rel =>
         refine ⟨k + 1,gl2,cl2,l2,E2,by omega,by go_num,rfl,by omega,HHE,?_,?_⟩
         ·rw [HTK.out,ze6,HNN.out];exact HRc.out.keep (below_drewN hb11 _)
         ·rw [HTK.out,ze6,HNN.out];exact HEI.out.skip HLI.out HNN.out
        case measure => simp [intOf];omega
       | true =>
        rw [hsb] at hsafe
        by_cases hyq : y = q.2
        ·have hnn : nxS (zad f) t.now (plN q) = none:=by rw [HNX.out,if_neg (fun h => h.2 hyq)]
         have HNN:= zab hnn
         have hd1 : ((y : Int) == (q.2 : Int)) = true:=by simp [hyq]
         have hd3 : decide ((y : Int) = (q.2 : Int)) = true:=by simp [hyq]
         clear hnn hsb HNX hyq
         go_wp2_with (go_at_call 33;refine (hsafe _ (Below.refl _ _)).mono ?_;rintro e' w11 ⟨rfl,hb11⟩;have p11:=zaa hb11 p1;have p12:=zaa hb11 p2;have c01:=zaa hb11 c0;have cy1:=zaa hb11 cy)
         go_quiet (fail)
         go_wp2_with fail
         go_roundw
         case rel =>
          refine ⟨k + 1,gl2,cl2,l2,E2,by omega,by go_num,rfl,by omega,HHE,?_,?_⟩
          ·rw [HTK.out,ze6,HNN.out];exact HRc.out.keep (below_drewN hb11 _)
          ·rw [HTK.out,ze6,HNN.out];exact HEI.out.skip HLI.out HNN.out
         case measure => simp [intOf];omega
        ·have hnn : nxS (zad f) t.now (plN q) = some (aft t.now ((plN q : Nat) : Int)):=by rw [HNX.out,if_pos ⟨hsb,hyq⟩]
         have hstq:=HRQ.out.step HO.out hq1 hq2
         have HNN:= zab hnn
         have HSTQ:= zab hstq
         have hd1 : ((y : Int) == (q.2 : Int)) = false:=by simp;omega
         have hd3 : decide ((y : Int) = (q.2 : Int)) = false:=by simp;omega
         clear hnn hsb HNX hstq
         go_wp2_with (go_at_call 33;refine (hsafe _ (Below.refl _ _)).mono ?_;rintro e' w11 ⟨rfl,hb11⟩;have p11:=zaa hb11 p1;have p12:=zaa hb11 p2;have c01:=zaa hb11 c0;have cy1:=zaa hb11 cy;have z11:=hb11.size)
         go_quiet (fail)
         go_wp2_with fail
         have hb12:=below_drewN hb11 nq
         generalize w11.drewN nq = w12 at hb12 ⊢
         clear p11 p12 c01 cy1 z11 hb11
         have p11:=zaa hb12 p1
         have p12:=zaa hb12 p2
         have c01:=zaa hb12 c0
         have lp12:=zaf p11
         go_region_held3 (fun w' => w'.cell? ⟨bp,k * 2,none⟩ = some (.int .i64 (q.1 : Int)) /\ w'.cell? ⟨bp,k * 2 + 1,none⟩ = some (.int .i64 (q.2 : Int))) (go_keep) (fail)
         have hb13 : Below w12.heap.size w12 (w12.alloc (.cells #[.int .i64 (q.1 : Int),.int .i64 (q.2 : Int)] 46)).drew:=(belS _ _).drew
         have rm13 : RowIs (w12.alloc (.cells #[.int .i64 (q.1 : Int),.int .i64 (q.2 : Int)] 46)).drew w12.heap.size 46 [.int .i64 (q.1 : Int),.int .i64 (q.2 : Int)]:=zay w12 _
         generalize (w12.alloc (.cells #[.int .i64 (q.1 : Int),.int .i64 (q.2 : Int)] 46)).drew = w13 at hb13 rm13 ⊢
         have hB13:=thn3 hb12 hb13
         have m0:=rm13.cell (j:=0) rfl
         have m1:=rm13.cell (j:=1) rfl
         have lm:=rm13.lt
         have v0:=zaa hB13 c0
         have v1:=zaa hB13 c1
         have v2:=zaa hB13 c2'
         rw [HSE.out.2.1] at v1
         have lv:=zaf v0
         have hstep:=fun (W : World) (h : Below w10.heap.size w10 W) => zzu e f.vs.length q.1 q.2 h3 (by omega) hq3 W (HSE.out.keep h) (fun b hb => by obtain ⟨j,hj⟩:=List.getElem?_of_mem hb;exact HRQ.out.h8 j b hj)
         clear p11 p12 c01 lp12 p1 p2 c0 c1 c2' cy hsafe hd1 hd3
         go_wp2_with fail
         have lm0 : w10.heap.size <= w12.heap.size:=hb12.size
         have nl : w13.heap.size ≠ gl2:=by omega
         have nm : w13.heap.size ≠ w12.heap.size:=by omega
         go_region_held3 (fun w' => (w'.cell? ⟨gl2,i * 3,none⟩ = some (.slice (some ⟨e.a,0,none⟩) f.vs.length e.ca) /\ w'.cell? ⟨gl2,i * 3 + 1,none⟩ = some (.slice (some ⟨e.b,0,none⟩) f.vs.length e.cb) /\ w'.cell? ⟨gl2,i * 3 + 2,none⟩ = some (.int .i64 e.far)) /\ w'.cell? ⟨w12.heap.size,0,none⟩ = some (.int .i64 (q.1 : Int)) /\ w'.cell? ⟨w12.heap.size,1,none⟩ = some (.int .i64 (q.2 : Int))) (first | go_keep | exact ⟨⟨zf8 nl v01,zf8 nl v11,zf8 nl v21⟩,zf8 nm m01,zf8 nm m11⟩) (first | (go_at_call 63;refine (hstep _ (thn3 hB13 (belS _ _)).drew).mono ?_;rintro e' w14 ⟨xa,xca,xb,xcb,rfl,hse14,lxa,lxb,hb14⟩;have v01:=zaa hb14 (zaa (belS w13 (.cells #[.slice none 0 0,.slice none 0 0,.int .i64 0] 83)).drew v0);have v11:=zaa hb14 (zaa (belS w13 (.cells #[.slice none 0 0,.slice none 0 0,.int .i64 0] 83)).drew v1);have v21:=zaa hb14 (zaa (belS w13 (.cells #[.slice none 0 0,.slice none 0 0,.int .i64 0] 83)).drew v2);have m01:=zaa hb14 (zaa (belS w13 (.cells #[.slice none 0 0,.slice none 0 0,.int .i64 0] 83)).drew m0);have m11:=zaa hb14 (zaa (belS w13 (.cells #[.slice none 0 0,.slice none 0 0,.int .i64 0] 83)).drew m1);have ry:=RowIs.keep (show RowIs (w13.alloc (.cells #[.slice none 0 0,.slice none 0 0,.int .i64 0] 83)).drew w13.heap.size 83 [.slice none 0 0,.slice none 0 0,.int .i64 0] from zay w13 _) hb14;have ry0:=ry.cell (j:=0) rfl;have ry1:=ry.cell (j:=1) rfl;have ry2:=ry.cell (j:=2) rfl;have rf0:=ry.frozen 0;have rf1:=ry.frozen 1;have rf2:=ry.frozen 2;have z14:=hb14.size;have hse14:= zab hse14;have ry:=(zab ry)) | (go_at_call 63;refine (hstep _ hB13.drew).mono ?_;rintro e' w14 ⟨xa,xca,xb,xcb,rfl,hse14,lxa,lxb,hb14⟩;have v01:=zaa hb14 (show w13.drew.cell? _ = _ from v0);have v11:=zaa hb14 (show w13.drew.cell? _ = _ from v1);have v21:=zaa hb14 (show w13.drew.cell? _ = _ from v2);have m01:=zaa hb14 (show w13.drew.cell? _ = _ from m0);have m11:=zaa hb14 (show w13.drew.cell? _ = _ from m1);have z14:=hb14.size;have hse14:=(zab hse14)))
         all_goals
          first
          | (have HY:=(zab (Yr.a hB13 rm13 lm0 hb14 ry.out hse14.out lxa lxb));clear ry hse14 lxa lxb hb14 v01 v11 v21 m01 m11 ry0 ry1 ry2 rf0 rf1 rf2 z14;generalize (((w14.setCell ⟨w13.heap.size,0,none⟩ _).setCell ⟨w13.heap.size,1,none⟩ _).setCell ⟨w13.heap.size,2,none⟩ _) = w15 at HY ⊢;generalize w13.heap.size = yb at HY ⊢)
          | (have HY:=(zab (Yr.b hB13 rm13 lm0 hb14 hse14.out lxa lxb));clear hse14 lxa lxb hb14 v01 v11 v21 m01 m11 z14;generalize (w14.alloc (.cells #[_,_,_] 83)) = w15 at HY ⊢;generalize w14.heap.size = yb at HY ⊢)
          have HR15:=(zab (HRc.out.keep HY.out.bel))
          have y0:=HY.out.row.cell (j:=0) rfl
          have y1:=HY.out.row.cell (j:=1) rfl
          have y2:=HY.out.row.cell (j:=2) rfl
          have ly:=HY.out.row.lt
          have lmm:=HY.out.m.lt
          have z15:=HY.out.bel.size
          have lg2:=(HRc.out.own.lt gl2 rfl).2
          have zw:=HRc.out.bel.size
          have lm5:=HY.out.lm
          have hnm : some w12.heap.size ≠ some gl2:=fun e => by simp at e;omega
          have la5:=HY.out.la.1
          have lb5:=HY.out.la.2
          have lE : ∀ b,u7.ownBlock = some b -> b < w10.heap.size:=fun b hb => (HRc.out.oe.lt b hb).2
          have hlen : l2.length <= 262153:=by
           have h1:=HLL2.out
           have h2:=zrc (nxS (zad f)) i t.now (((prs f.vs).map plN).take k) (touS (zad f) i)
           have h4 : (((prs f.vs).map plN).take k).length <= 9:=by rw [List.length_take,List.length_map];omega
           omega
          have hi262 : i <= 262153:=by omega
          have lxn:=zfr HY.out.se.2.2.1 (by rw [zfh,HY.out.se.1];omega)
          have lxh:=zfr HY.out.se.2.2.2 (by rw [zfh,HY.out.se.2.1];omega)
          have hseC : seC ⟨xa,xca,xb,xcb,nowS e.now q.1 q.2 f.vs.length,hadS e.had q.1 q.2 f.vs.length,-1⟩ = [.slice (some ⟨xa,0,none⟩) f.vs.length xca,.slice (some ⟨xb,0,none⟩) f.vs.length xcb,.int .i64 (-1)]:=by unfold seC;rw [HY.out.se.1,HY.out.se.2.1]
          have hp9 : plN q < 9:=by unfold plN;omega
          have hfind:=fun (W : World) (h : Below w15.heap.size w15 W) => zul l2 ⟨xa,xca,xb,xcb,nowS e.now q.1 q.2 f.vs.length,hadS e.had q.1 q.2 f.vs.length,-1⟩ f.vs.length (by omega) (by omega) gl2 cl2 W (zc2 (HR15.out.keep h).own) (HR15.out.keep h).ses (HY.out.keep h).se
          obtain ⟨iS,hiS,zS0,zS1,zS2⟩:=info_parts Tryz.infoSitL
          obtain ⟨iE,hiE,zE0,zE1,zE2⟩:=info_parts Tryz.infoEdgL
          have HSC:= zab hseC
          simp only at lxn lxh la5 lb5
          have na1 : xa ≠ gl2:=by omega
          have nb1 : xb ≠ gl2:=by omega
          have na2 : some xa ≠ u7.ownBlock:=fun e => by have:=lE _ e.symm;omega
          have nb2 : some xb ≠ u7.ownBlock:=fun e => by have:=lE _ e.symm;omega
          clear v0 v1 v2 m0 m1 rm13 hb13 hB13 hb12 lm0 nl nm hstep hseC HRc HV
          rcases HR15.out.lr.find HO.out (y:=aft t.now ((plN q : Nat) : Int)) (x:=⟨xa,xca,xb,xcb,nowS e.now q.1 q.2 f.vs.length,hadS e.had q.1 q.2 f.vs.length,-1⟩) HSTQ.out with ⟨hfn,hany⟩ | ⟨j,tj,hj,hty,hfn,hany⟩
          ·rw [hfn] at hfind
           have HANY:= zab hany
           clear hfn hany
           go_wp2_with (first
            | (go_at_call 64;refine (hfind _ (Below.refl _ _)).mono ?_;rintro e' w16 ⟨rfl,hb16⟩;have HR16:=(zab (HR15.out.keep hb16));have HY16:=(zab (HY.out.keep hb16));have y06:=zaa hb16 y0;have y16:=zaa hb16 y1;have y26:=zaa hb16 y2;have z16:=hb16.size;have ly16:=HY16.out.row.lt;have lxn6 : xa < w16.heap.size:=(by omega);have lxh6 : xb < w16.heap.size:=(by omega);have m06:=HY16.out.m.cell (j:=0) rfl;have m16:=HY16.out.m.cell (j:=1) rfl)
            | (at_builtin;have hq':=hgrow1;refine wpList_append_lies _ rfl _ _ _ rfl w.heap.size 86 iE _ 4 32 Tryz.underlying77 hiE zE0 zE1 zE2 rfl (by omega) u7 E2.length _ rfl (HR17.out.oe.alloc _) ⟨w17.heap.size,0,none⟩ 1 1 [.int .i64 (i : Int),.int .i64 (l2.length : Int),.int .i64 (q.1 : Int),.int .i64 (q.2 : Int)] rfl rfl (World.news_of_block (heap_alloc_new w17 _)) (by simp [Value.oneCell']) (by omega) (by unfold maxLen;omega) (by omega) (by simp;omega) (w17.heap.size + 1) (by simp) ?_;intro g2 cap2 w18 hown2 hgrow2 hat2 hlt2)
            | (at_builtin;have hq'':=HR16;refine wpList_append_lies _ rfl _ _ _ rfl w.heap.size 83 iS _ 3 56 Tryz.underlying76 hiS zS0 zS1 zS2 rfl (by omega) (.slice (some ⟨gl2,0,none⟩) l2.length cl2) l2.length _ rfl (HR16.out.own.alloc _) ⟨w16.heap.size,0,none⟩ 1 1 [.slice (some ⟨xa,0,none⟩) f.vs.length xca,.slice (some ⟨xb,0,none⟩) f.vs.length xcb,.int .i64 (-1)] rfl rfl (World.news_of_block (heap_alloc_new w16 _)) (by simp [Value.oneCell']) (by omega) (by unfold maxLen;omega) (by omega) (by simp;omega) (w16.heap.size + 1) (by simp) ?_;intro g1 cap1 w17 hown1 hgrow1 hat1 hlt1;have m07:=hgrow1.cell (zaw _ m06) hnm;have m17:=hgrow1.cell (zaw _ m16) hnm;have HR17:=(zab (HR16.out.addL (e:=⟨xa,xca,xb,xcb,nowS e.now q.1 q.2 f.vs.length,hadS e.had q.1 q.2 f.vs.length,-1⟩) (t:=⟨aft t.now ((plN q : Nat) : Int),i,plN q⟩) hgrow1 (by rw [HSC.out];exact hown1) hat1 HY16.out.se ⟨na1,na2,lxn6⟩ ⟨nb1,nb2,lxh6⟩ HSTQ.out rfl));have z17:=hgrow1.size;simp at z17))
           go_roundw
           case rel =>
            refine ⟨k + 1,g1,cap1,l2 ++ [⟨xa,xca,xb,xcb,nowS e.now q.1 q.2 f.vs.length,hadS e.had q.1 q.2 f.vs.length,-1⟩],E2 ++ [(i,l2.length,plN q)],by omega,by go_num,by rw [List.length_append];rfl,by rw [List.length_append];simp;omega,zfu HHE.out,?_,?_⟩
            ·rw [zrd HTK.out HNN.out HANY.out];exact HR17.out.addQ hq3 hgrow2 hown2 hat2
            ·rw [zrd HTK.out HNN.out HANY.out];exact HEI.out.new HLI.out hp9 HNN.out HLL2.out HTK.out
           case measure => simp [intOf];omega
          ·rw [hfn] at hfind
           have HANY:= zab hany
           have HJ:= zab hj
           have HTY:= zab hty
           have hjl : j <= 262153:=by have:=(List.getElem?_eq_some_iff.1 hj).1;have:=HLL2.out;omega
           have hj0 : ¬ ((j : Int) < 0):=by omega
           clear hfn hany hj hty
           go_wp2_with (first
            | (go_at_call 64;refine (hfind _ (Below.refl _ _)).mono ?_;rintro e' w16 ⟨rfl,hb16⟩;have HR16:=(zab (HR15.out.keep hb16));have HY16:=(zab (HY.out.keep hb16));have z16:=hb16.size;have m06:=HY16.out.m.cell (j:=0) rfl;have m16:=HY16.out.m.cell (j:=1) rfl;have lm16:=HY16.out.m.lt)
            | (at_builtin;refine wpList_append_lies _ rfl _ _ _ rfl w.heap.size 86 iE _ 4 32 Tryz.underlying77 hiE zE0 zE1 zE2 rfl (by omega) u7 E2.length _ rfl (HR16.out.oe.alloc _) ⟨w16.heap.size,0,none⟩ 1 1 [.int .i64 (i : Int),.int .i64 (j : Int),.int .i64 (q.1 : Int),.int .i64 (q.2 : Int)] rfl rfl (World.news_of_block (heap_alloc_new w16 _)) (by simp [Value.oneCell']) (by omega) (by unfold maxLen;omega) (by omega) (by simp;omega) (w16.heap.size + 1) (by simp) ?_;intro g2 cap2 w18 hown2 hgrow2 hat2 hlt2))
           go_roundw
           case rel =>
            refine ⟨k + 1,gl2,cl2,l2,E2 ++ [(i,j,plN q)],by omega,by go_num,rfl,by rw [List.length_append];simp;omega,HHE,?_,?_⟩
            ·rw [zrb HTK.out HNN.out HANY.out];exact HR16.out.addQ hq3 hgrow2 hown2 hat2
            ·rw [zrb HTK.out HNN.out HANY.out,HTK.out];exact HEI.out.add (fun _ _ h => h) (fun _ _ _ h => h) HLI.out hp9 HNN.out HJ.out HTY.out
           case measure => simp [intOf];omega
      ·obtain rfl : k = (prs f.vs).length:=by omega
       have htp:=yaaf HO.out HT.out
       have hR:=HRc.out
       have hE:=HEI.out
       rw [List.take_of_length_le (by simp),<- htp] at hR hE
       have hi1 : i + 1 <= (touS (zad f) (i + 1)).length:=by
        have:=(List.getElem?_eq_some_iff.1 (zls HT.out)).1
        exact this
       have HR3:=(zab (hR.less (Y:=[(aa,prs f.vs)]) (fun x hx => by simp at hx;subst hx;simp)))
       have HE3:=(zab (hE.next HO.out))
       clear hR hE htp
       go_wp2_with fail
       go_roundw
       case rel => exact ⟨i + 1,gl2,cl2,l2,E2,by go_num,rfl,hi1,by omega,HR3,HE3⟩
       case measure => simp [intOf];omega
    ·have hiL : (touS (zad f) i).length = i:=by omega
     have hte:=zek (zb5 f) hiL
     have hR:=HRc.out
     have hE:=HEI.out
     have hE2 : EI (nxS (zad f)) (touS (zad f) i) E (touS (zad f) i).length []:=by rw [hiL];exact hE
     rw [hte] at hR hE2
     have HR3:=(zab (hR.less (Y:=[]) (fun x hx => by simp at hx)))
     have HE3:= zab hE2.done
     have hEl : E.length <= 9 * l.length:=by omega
     clear hR hE hE2 hte hiL
     go_wp2_with fail
     go_ret2
     exact ⟨gl,cl,l,_,E,rfl,HR3.out,HE3.out,hEl⟩
end
end Go.Proofs.YtkkekopomiehlaaGreat
