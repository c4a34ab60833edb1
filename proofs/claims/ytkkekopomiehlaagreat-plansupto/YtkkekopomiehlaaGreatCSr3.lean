import Derived.Test.YtkkekopomiehlaaGreatCRf2
set_option linter.unusedVariables false
set_option linter.unusedSimpArgs false
set_option maxHeartbeats 40000000
namespace Go.Proofs.YtkkekopomiehlaaGreat
section
set_option maxRecDepth 4000
open Go.RowKit
def meB (ss : List ByteArray) (ts : List Int) (kept : Bool) (p q : PinD) : Bool:=(p.t != q.t) || (kept && (ts.getD p.t.toNat 0 != 0)) || (rdB ss p q && rdB ss q p)
def metB (ss : List ByteArray) (ts : List Int) (kept : Bool) (ps qs : List PinD) : Bool:=ps.all fun p => qs.all (meB ss ts kept p)
def zee (ns nt : Nat) (ps : List PinD) : Prop:=∀ p ∈ ps,(0 <= p.t /\ p.t < nt) /\ p.w < ns /\ p.r < ns /\ -1 <= p.w /\ -1 <= p.r
theorem zv0 (f : zae) (g : Nat) (sa ta va fa : Option Addr) (sl sc tl tc vl vc fc : Nat) (w : World) (hV : VwAt w g sa sl sc ta tl tc va vl vc fa fc f (fitM f.ss)) (hss : f.ss.length <= 8) (s1 r1 s2 r2 : Nat) (v1 v2 : SvcD) (ps qs : List PinD) (kept : Bool)
  (hs1 : f.vs[s1]? = some v1) (hr1 : v1.rels[r1]? = some ps) (hs2 : f.vs[s2]? = some v2) (hr2 : v2.rels[r2]? = some qs) (hps : zee f.ss.length f.ts.length ps) (hqs : zee f.ss.length f.ts.length qs) :
  Calls Tryz.prog 59 #[.pointer (some ⟨g,0,none⟩),.agg #[.int .i64 s1,.int .i64 r1],.agg #[.int .i64 s2,.int .i64 r2],.bool kept] w fun e W => e = .returned (.bool (metB f.ss f.ts kept ps qs)) /\ Below w.heap.size w W:=by
 obtain ⟨b,o,ra1,rl1,rc1,rfl,_,_,_,a3,ar⟩:=hV.fl.v3 s1 v1 hs1
 obtain ⟨b',o',ra2,rl2,rc2,heq,_,_,_,z3,zr⟩:=hV.fl.v3 s2 v2 hs2
 obtain ⟨rfl,rfl⟩ : b = b' /\ o = o':=by cases heq;exact ⟨rfl,rfl⟩
 obtain ⟨bA,oA,pa,pl,pc,rfl,a4,ap⟩:=ar.2.2.2.2 r1 ps hr1
 obtain ⟨bZ,oZ,qa,ql,qc,rfl,z4,zp⟩:=zr.2.2.2.2 r2 qs hr2
 obtain ⟨rfl,lp,_,_,pp⟩:=ap
 obtain ⟨rfl,lq,_,_,qq⟩:=zp
 have hl1 : s1 < vl:=by rw [hV.fl.v1];exact (List.getElem?_eq_some_iff.1 hs1).1
 have hl2 : s2 < vl:=by rw [hV.fl.v1];exact (List.getElem?_eq_some_iff.1 hs2).1
 have hvl : vl <= 2000000:=by rw [hV.fl.v1];exact hV.fl.v2
 have hm1 : r1 < rl1:=by rw [ar.1];exact (List.getElem?_eq_some_iff.1 hr1).1
 have hm2 : r2 < rl2:=by rw [zr.1];exact (List.getElem?_eq_some_iff.1 hr2).1
 have hrl1 : rl1 <= 2000000:=by rw [ar.1];exact ar.2.1
 have hrl2 : rl2 <= 2000000:=by rw [zr.1];exact zr.2.1
 have htl:=hV.fl.t1
 have htl2:=hV.fl.t2
 have u1 : (0 : Int) <= (s1 : Int) /\ (s1 : Int) < (vl : Int):=by omega
 have u2 : (0 : Int) <= (s2 : Int) /\ (s2 : Int) < (vl : Int):=by omega
 have u3 : (0 : Int) <= (r1 : Int) /\ (r1 : Int) < (rl1 : Int):=by omega
 have u4 : (0 : Int) <= (r2 : Int) /\ (r2 : Int) < (rl2 : Int):=by omega
 obtain ⟨u1a,u1b⟩:=u1
 obtain ⟨u2a,u2b⟩:=u2
 obtain ⟨u3a,u3b⟩:=u3
 obtain ⟨u4a,u4b⟩:=u4
 have hB0 : Below w.heap.size w ((w.alloc (.cells #[.int .i64 s1,.int .i64 r1] 64)).alloc (.cells #[.int .i64 s2,.int .i64 r2] 64)):=bx w _ _
 have PA:=box2 w (.int .i64 s1) (.int .i64 r1) 64
 have PA:=new2 (.cells #[.int .i64 s2,.int .i64 r2] 64) PA
 have PZ:=box2 (w.alloc (.cells #[.int .i64 s1,.int .i64 r1] 64)) (.int .i64 s2) (.int .i64 r2) 64
 rw [za2] at PZ
 have VW:=zof hB0 (⟨hV.c0,hV.c1,hV.c2⟩ : w.cell? ⟨g,0,none⟩ = some (.slice sa sl sc) /\ w.cell? ⟨g,1,none⟩ = some (.slice ta tl tc) /\ w.cell? ⟨g,2,none⟩ = some (.slice (some ⟨b,o,none⟩) vl vc))
 have hgl:=zaf hV.c0
 have a3:=zaa hB0 a3
 have z3:=zaa hB0 z3
 have a4:=zaa hB0 a4
 have z4:=zaa hB0 z4
 have HV:= zab hV
 have HP:= zab pp
 have HQ:= zab qq
 have HPS:= zab hps
 have HQS:= zab hqs
 have HTS:= zab hV.fl.t3
 obtain ⟨R,hR⟩ : ∃ R,R = metB f.ss f.ts kept ps qs:=⟨_,rfl⟩
 rw [<- hR]
 have HR : Hid (R = ps.all fun p => qs.all (meB f.ss f.ts kept p)):=hR
 clear hR hV pp qq hps hqs hs1 hs2 hr1 hr2 ar zr heq
 obtain ⟨PA0,PA1⟩:=PA
 obtain ⟨PZ0,PZ1⟩:=PZ
 obtain ⟨VW0,VW1,VW2⟩:=VW
 go_enter Tryz.func59,Tryz.ntmps59
 go_wp2_with fail
 go_region_held3 (fun w' => (w'.cell? ⟨g,2,none⟩ = some (.slice (some ⟨b,o,none⟩) vl vc) /\ w'.cell? ⟨w.heap.size,0,none⟩ = some (.int .i64 s1) /\ w'.cell? ⟨w.heap.size,1,none⟩ = some (.int .i64 r1)) /\ w'.cell? ⟨b,o + s1 * 4 + 3,none⟩ = some (.slice (some ⟨bA,oA,none⟩) rl1 rc1) /\ w'.cell? ⟨bA,oA + r1,none⟩ = some (.slice pa ps.length pc)) (go_keep) (first | fail)
 go_wp2_with fail
 go_region_held3 (fun w' => (w'.cell? ⟨g,2,none⟩ = some (.slice (some ⟨b,o,none⟩) vl vc) /\ w'.cell? ⟨w.heap.size + 1,0,none⟩ = some (.int .i64 s2) /\ w'.cell? ⟨w.heap.size + 1,1,none⟩ = some (.int .i64 r2)) /\ w'.cell? ⟨b,o + s2 * 4 + 3,none⟩ = some (.slice (some ⟨bZ,oZ,none⟩) rl2 rc2) /\ w'.cell? ⟨bZ,oZ + r2,none⟩ = some (.slice qa qs.length qc)) (go_keep) (first | fail)
 go_wp2_with fail
 go_loopw [11] (fun vi wr => ∃ i : Nat,i <= ps.length /\ vi = .int .i64 i /\ Hid ((ps.take i).all (fun p => qs.all (meB f.ss f.ts kept p)) = true) /\ Below ((w.alloc (.cells #[.int .i64 s1,.int .i64 r1] 64)).alloc (.cells #[.int .i64 s2,.int .i64 r2] 64)).heap.size ((w.alloc (.cells #[.int .i64 s1,.int .i64 r1] 64)).alloc (.cells #[.int .i64 s2,.int .i64 r2] 64)) wr) (fun i _ => ps.length - (intOf i).toNat)
 case atStart => exact ⟨0,Nat.zero_le _,rfl,(by show _ = _;rfl),(Below.refl _ _).drew.drew⟩
 case round =>
  obtain ⟨i,hi,rfl,hx,hb⟩:=hrel
  by_cases hlt : i < ps.length
  ·obtain ⟨p,hpi⟩ : ∃ p,ps[i]? = some p:=⟨ps[i],List.getElem?_eq_getElem hlt⟩
   obtain ⟨bp,op,rfl,c0,c1,c2⟩:=HP.out i p hpi
   have hsx:=zcb (fun p => qs.all (meB f.ss f.ts kept p)) hpi
   rw [hx.out,Bool.true_and] at hsx
   have hnx : qs.all (meB f.ss f.ts kept p) = false -> R = false:=fun h => by rw [HR.out];exact zca hpi h
   have HSX:= zab hsx
   have hpo:=HPS.out p (List.mem_of_getElem? hpi)
   have HNX:= zab hnx
   have hx0 := znn i
   have hx1 : (i : Int) < (ps.length : Int):=by omega
   clear hsx hnx hx hpi
   go_wp2_with fail
   go_loopw [12] (fun vj wr => ∃ j : Nat,j <= qs.length /\ vj = .int .i64 j /\ Hid ((qs.take j).all (meB f.ss f.ts kept p) = true) /\ Below ((w.alloc (.cells #[.int .i64 s1,.int .i64 r1] 64)).alloc (.cells #[.int .i64 s2,.int .i64 r2] 64)).heap.size ((w.alloc (.cells #[.int .i64 s1,.int .i64 r1] 64)).alloc (.cells #[.int .i64 s2,.int .i64 r2] 64)) wr) (fun j _ => qs.length - (intOf j).toNat)
   case atStart => exact ⟨0,Nat.zero_le _,rfl,(by show _ = _;rfl),hb⟩
   case round =>
    clear hb
    obtain ⟨j,hj,rfl,hxj,hbj⟩:=hrel
    have hbW:=thn3 hB0 hbj
    by_cases hjl : j < qs.length
    ·obtain ⟨q,hqj⟩ : ∃ q,qs[j]? = some q:=⟨qs[j],List.getElem?_eq_getElem hjl⟩
     obtain ⟨bq,oq,rfl,d0,d1,d2⟩:=HQ.out j q hqj
     have hqo:=HQS.out q (List.mem_of_getElem? hqj)
     have pc:=zdk hbW ⟨c0,c1,c2⟩
     have qc:=zdk hbW ⟨d0,d1,d2⟩
     have vv:=zof hbj ⟨VW0,VW1,VW2⟩
     have hsn:=zcb (meB f.ss f.ts kept p) hqj
     rw [hxj.out,Bool.true_and] at hsn
     have hy' : meB f.ss f.ts kept p q = true -> Hid ((qs.take (j + 1)).all (meB f.ss f.ts kept p) = true):=fun h => by show _ = _;rw [hsn];exact h
     have hno : meB f.ss f.ts kept p q = false -> R = false:=fun h => HNX.out (zca hqj h)
     have hrd1:=fun (W : World) (h : Below w.heap.size w W) => zqd f.ss p q hpo.2.1 hqo.2.2.1 hss g fa fc W (HV.out.keep h).c3 (HV.out.keep h).fit
     have hrd2:=fun (W : World) (h : Below w.heap.size w W) => zqd f.ss q p hqo.2.1 hpo.2.2.1 hss g fa fc W (HV.out.keep h).c3 (HV.out.keep h).fit
     have hme : meB f.ss f.ts kept p q = ((p.t != q.t) || (kept && (f.ts.getD p.t.toNat 0 != 0)) || (rdB f.ss p q && rdB f.ss q p)):=rfl
     rw [hme] at hy' hno
     have hy0 := znn j
     have hy1 : (j : Int) < (qs.length : Int):=by omega
     have hlp:=zaf pc.1
     have hlq:=zaf qc.1
     have hlg:=zaf vv.1
     obtain ⟨n,hn⟩ : ∃ n : Nat,p.t = n:=⟨p.t.toNat,by omega⟩
     have hnt : n < f.ts.length:=by have:=hpo.1.2;omega
     obtain ⟨k,hk⟩ : ∃ k,f.ts[n]? = some k:=⟨f.ts[n]'hnt,List.getElem?_eq_getElem hnt⟩
     obtain ⟨bt,ot,rfl,t0⟩:=HTS.out n k hk
     have t0:=zaa hbW t0
     have hkg : f.ts.getD p.t.toNat 0 = k:=by rw [hn,Int.toNat_natCast];simp [List.getD,hk]
     rw [hkg] at hy' hno
     generalize rdB f.ss p q = x at hrd1 hy' hno
     generalize rdB f.ss q p = y at hrd2 hy' hno
     obtain ⟨pt,pw,pr⟩:=p
     obtain ⟨qt,qw,qr⟩:=q
     simp only at hn pc qc c0 c1 c2 hy' hno hrd1 hrd2
     subst hn
     have hn0 := znn n
     have hn1 : (n : Int) < (tl : Int):=by omega
     have hlt0:=zaf t0
     obtain ⟨pc0,pc1,pc2⟩:=pc
     obtain ⟨qc0,qc1,qc2⟩:=qc
     obtain ⟨vv0,vv1,vv2⟩:=vv
     have pc : wr.cell? ⟨bp,op + i * 3,none⟩ = some (.int .i64 n) /\ wr.cell? ⟨bp,op + i * 3 + 1,none⟩ = some (.int .i64 pw) /\ wr.cell? ⟨bp,op + i * 3 + 2,none⟩ = some (.int .i64 pr):=⟨pc0,pc1,pc2⟩
     have qc : wr.cell? ⟨bq,oq + j * 3,none⟩ = some (.int .i64 qt) /\ wr.cell? ⟨bq,oq + j * 3 + 1,none⟩ = some (.int .i64 qw) /\ wr.cell? ⟨bq,oq + j * 3 + 2,none⟩ = some (.int .i64 qr):=⟨qc0,qc1,qc2⟩
     have vv : wr.cell? ⟨g,0,none⟩ = some (.slice sa sl sc) /\ wr.cell? ⟨g,1,none⟩ = some (.slice (some ⟨bt,ot,none⟩) tl tc) /\ wr.cell? ⟨g,2,none⟩ = some (.slice (some ⟨b,o,none⟩) vl vc):=⟨vv0,vv1,vv2⟩
     clear hsn hqj hxj hk hkg hme c0 c1 c2 d0 d1 d2 hpo hqo a3 z3 a4 z4 PA0 PA1 PZ0 PZ1 VW0 VW1 VW2
     by_cases hpq : (n : Int) = qt
     ·have hne : ((n : Int) != qt) = false:=by simp [hpq]
      rw [hne] at hy' hno
      simp only [Bool.false_or] at hy' hno
      clear hpq
      cases kept with
      | false =>
       simp only [Bool.false_and,Bool.false_or] at hy' hno
       go_wp2_with fail
       go_region_held3 (fun w' => (w'.cell? ⟨bp,op + i * 3,none⟩ = some (.int .i64 n) /\ w'.cell? ⟨bp,op + i * 3 + 1,none⟩ = some (.int .i64 pw) /\ w'.cell? ⟨bp,op + i * 3 + 2,none⟩ = some (.int .i64 pr)) /\ (w'.cell? ⟨bq,oq + j * 3,none⟩ = some (.int .i64 qt) /\ w'.cell? ⟨bq,oq + j * 3 + 1,none⟩ = some (.int .i64 qw) /\ w'.cell? ⟨bq,oq + j * 3 + 2,none⟩ = some (.int .i64 qr)) /\ w'.cell? ⟨g,1,none⟩ = some (.slice (some ⟨bt,ot,none⟩) tl tc) /\ w'.cell? ⟨bt,ot + n,none⟩ = some (.int .i64 k)) (go_keep) (first | fail)
       go_wp2_with fail
       refine wp_region_held_drew (S:=(fun _ => True)) (by kernel_rfl) trivial (fun hH => ?_)
       refine wpAnyH_take (i:=0) (v:=?_) rfl (by kernel_rfl) (by kernel_rfl) (by kernel_rfl) (fun _ _ _ h => h) (Or.inl ⟨by rfl,?_⟩) hH ?_
       rotate_left
       ·intro w' hS';(try dsimp only at hS');go_simp <;> (try with_reducible rfl)
       simp only [Act.put,List.setIfInBounds_toArray,List.set_cons_zero,List.set_cons_succ,List.getElem_toArray,List.getElem_cons_zero,List.getElem_cons_succ]
       refine wpAnyH_take (i:=1) (v:=?_) rfl (by kernel_rfl) (by kernel_rfl) (by kernel_rfl) (fun _ _ _ h => h) (Or.inl ⟨by rfl,?_⟩) hH ?_
       rotate_left
       ·intro w' hS';(try dsimp only at hS');go_simp <;> (try with_reducible rfl)
       simp only [Act.put,List.setIfInBounds_toArray,List.set_cons_zero,List.set_cons_succ,List.getElem_toArray,List.getElem_cons_zero,List.getElem_cons_succ]
       refine wpAnyH_take (i:=2) (v:=undef) rfl (by kernel_rfl) (by kernel_rfl) (by kernel_rfl) (fun _ _ _ h => h) (Or.inr ⟨by rfl,rfl⟩) hH ?_
       simp only [Act.put,List.setIfInBounds_toArray,List.set_cons_zero,List.set_cons_succ,List.getElem_toArray,List.getElem_cons_zero,List.getElem_cons_succ]
       refine wpAnyH_take (i:=3) (v:=undef) rfl (by kernel_rfl) (by kernel_rfl) (by kernel_rfl) (fun _ _ _ h => h) (Or.inr ⟨by rfl,rfl⟩) hH ?_
       simp only [Act.put,List.setIfInBounds_toArray,List.set_cons_zero,List.set_cons_succ,List.getElem_toArray,List.getElem_cons_zero,List.getElem_cons_succ]
       refine wpAnyH_take (i:=4) (v:=undef) rfl (by kernel_rfl) (by kernel_rfl) (by kernel_rfl) (fun _ _ _ h => h) (Or.inr ⟨by rfl,rfl⟩) hH ?_
       simp only [Act.put,List.setIfInBounds_toArray,List.set_cons_zero,List.set_cons_succ,List.getElem_toArray,List.getElem_cons_zero,List.getElem_cons_succ]
       refine wpAnyH_take (i:=5) (v:=undef) rfl (by kernel_rfl) (by kernel_rfl) (by kernel_rfl) (fun _ _ _ h => h) (Or.inr ⟨by rfl,rfl⟩) hH ?_
       simp only [Act.put,List.setIfInBounds_toArray,List.set_cons_zero,List.set_cons_succ,List.getElem_toArray,List.getElem_cons_zero,List.getElem_cons_succ]
       refine wpAnyH_take (i:=6) (v:=undef) rfl (by kernel_rfl) (by kernel_rfl) (by kernel_rfl) (fun _ _ _ h => h) (Or.inr ⟨by rfl,rfl⟩) hH ?_
       simp only [Act.put,List.setIfInBounds_toArray,List.set_cons_zero,List.set_cons_succ,List.getElem_toArray,List.getElem_cons_zero,List.getElem_cons_succ]
       refine wpAnyH_take (i:=7) (v:=undef) rfl (by kernel_rfl) (by kernel_rfl) (by kernel_rfl) (fun _ _ _ h => h) (Or.inr ⟨by rfl,rfl⟩) hH ?_
       simp only [Act.put,List.setIfInBounds_toArray,List.set_cons_zero,List.set_cons_succ,List.getElem_toArray,List.getElem_cons_zero,List.getElem_cons_succ]
       refine wpAnyH_take (i:=8) (v:=undef) rfl (by kernel_rfl) (by kernel_rfl) (by kernel_rfl) (fun _ _ _ h => h) (Or.inr ⟨by rfl,rfl⟩) hH ?_
       simp only [Act.put,List.setIfInBounds_toArray,List.set_cons_zero,List.set_cons_succ,List.getElem_toArray,List.getElem_cons_zero,List.getElem_cons_succ]
       refine wpAnyH_take (i:=9) (v:=undef) rfl (by kernel_rfl) (by kernel_rfl) (by kernel_rfl) (fun _ _ _ h => h) (Or.inr ⟨by rfl,rfl⟩) hH ?_
       simp only [Act.put,List.setIfInBounds_toArray,List.set_cons_zero,List.set_cons_succ,List.getElem_toArray,List.getElem_cons_zero,List.getElem_cons_succ]
       refine wpAnyH_take (i:=10) (v:=undef) rfl (by kernel_rfl) (by kernel_rfl) (by kernel_rfl) (fun _ _ _ h => h) (Or.inr ⟨by rfl,rfl⟩) hH ?_
       simp only [Act.put,List.setIfInBounds_toArray,List.set_cons_zero,List.set_cons_succ,List.getElem_toArray,List.getElem_cons_zero,List.getElem_cons_succ]
       refine wpAnyH_take (i:=11) (v:=undef) rfl (by kernel_rfl) (by kernel_rfl) (by kernel_rfl) (fun _ _ _ h => h) (Or.inr ⟨by rfl,rfl⟩) hH ?_
       simp only [Act.put,List.setIfInBounds_toArray,List.set_cons_zero,List.set_cons_succ,List.getElem_toArray,List.getElem_cons_zero,List.getElem_cons_succ]
       refine wpAnyH_take (i:=12) (v:=undef) rfl (by kernel_rfl) (by kernel_rfl) (by kernel_rfl) (fun _ _ _ h => h) (Or.inr ⟨by rfl,rfl⟩) hH ?_
       simp only [Act.put,List.setIfInBounds_toArray,List.set_cons_zero,List.set_cons_succ,List.getElem_toArray,List.getElem_cons_zero,List.getElem_cons_succ]
       refine wpAnyH_take (i:=13) (v:=undef) rfl (by kernel_rfl) (by kernel_rfl) (by kernel_rfl) (fun _ _ _ h => h) (Or.inr ⟨by rfl,rfl⟩) hH ?_
       simp only [Act.put,List.setIfInBounds_toArray,List.set_cons_zero,List.set_cons_succ,List.getElem_toArray,List.getElem_cons_zero,List.getElem_cons_succ]
       refine wpAnyH_take (i:=14) (v:=undef) rfl (by kernel_rfl) (by kernel_rfl) (by kernel_rfl) (fun _ _ _ h => h) (Or.inr ⟨by rfl,rfl⟩) hH ?_
       simp only [Act.put,List.setIfInBounds_toArray,List.set_cons_zero,List.set_cons_succ,List.getElem_toArray,List.getElem_cons_zero,List.getElem_cons_succ]
       refine wpAnyH_take (i:=15) (v:=undef) rfl (by kernel_rfl) (by kernel_rfl) (by kernel_rfl) (fun _ _ _ h => h) (Or.inr ⟨by rfl,rfl⟩) hH ?_
       simp only [Act.put,List.setIfInBounds_toArray,List.set_cons_zero,List.set_cons_succ,List.getElem_toArray,List.getElem_cons_zero,List.getElem_cons_succ]
       refine wpAnyH_take (i:=16) (v:=?_) rfl (by kernel_rfl) (by kernel_rfl) (by kernel_rfl) (fun _ _ _ h => h) (Or.inl ⟨by rfl,?_⟩) hH ?_
       rotate_left
       ·intro w' hS';(try dsimp only at hS');go_simp <;> (try with_reducible rfl)
       simp only [Act.put,List.setIfInBounds_toArray,List.set_cons_zero,List.set_cons_succ,List.getElem_toArray,List.getElem_cons_zero,List.getElem_cons_succ]
       refine wpAnyH_done (by kernel_rfl) ?_ _
       clear hH
       go_wp2_with fail
       go_region_held3 (fun w' => (w'.cell? ⟨bp,op + i * 3,none⟩ = some (.int .i64 n) /\ w'.cell? ⟨bp,op + i * 3 + 1,none⟩ = some (.int .i64 pw) /\ w'.cell? ⟨bp,op + i * 3 + 2,none⟩ = some (.int .i64 pr)) /\ (w'.cell? ⟨bq,oq + j * 3,none⟩ = some (.int .i64 qt) /\ w'.cell? ⟨bq,oq + j * 3 + 1,none⟩ = some (.int .i64 qw) /\ w'.cell? ⟨bq,oq + j * 3 + 2,none⟩ = some (.int .i64 qr)) /\ w'.cell? ⟨g,1,none⟩ = some (.slice (some ⟨bt,ot,none⟩) tl tc) /\ w'.cell? ⟨bt,ot + n,none⟩ = some (.int .i64 k)) (go_keep) (first | (go_at_call 80;refine (hrd1 _ (show Below w.heap.size w wr.drew.drew.drew from hbW.drew.drew.drew)).mono ?_;rintro e w6 ⟨rfl,hb6⟩;have p6:=zdk hb6 pc;have q6:=zdk hb6 qc;have v6:=zaa hb6 vv1;have t6:=zaa hb6 t0))
       go_wp2_with fail
       go_region_held3 (fun w' => (w'.cell? ⟨bp,op + i * 3,none⟩ = some (.int .i64 n) /\ w'.cell? ⟨bp,op + i * 3 + 1,none⟩ = some (.int .i64 pw) /\ w'.cell? ⟨bp,op + i * 3 + 2,none⟩ = some (.int .i64 pr)) /\ (w'.cell? ⟨bq,oq + j * 3,none⟩ = some (.int .i64 qt) /\ w'.cell? ⟨bq,oq + j * 3 + 1,none⟩ = some (.int .i64 qw) /\ w'.cell? ⟨bq,oq + j * 3 + 2,none⟩ = some (.int .i64 qr)) /\ w'.cell? ⟨g,1,none⟩ = some (.slice (some ⟨bt,ot,none⟩) tl tc) /\ w'.cell? ⟨bt,ot + n,none⟩ = some (.int .i64 k)) (go_keep) (first | (go_at_call 80;refine (hrd2 _ (thn3 hbW.drew.drew.drew hb6).drew).mono ?_;rintro e w7 ⟨rfl,hb7⟩;have p7:=zdk hb7 p6;have q7:=zdk hb7 q6;have v7:=zaa hb7 v6;have t7:=zaa hb7 t6))
       cases x with
       | true =>
        cases y with
        | true =>
         clear hno
         go_wp2_with fail
         go_roundw
         case rel => exact ⟨j + 1,by omega,by go_num,hy' rfl,thn3 (thn3 hbj.drew.drew.drew hb6).drew hb7⟩
         case measure => simp [intOf];omega
        | false =>
         have hR1 : R = false:=hno rfl
         clear hno hy'
         subst hR1
         go_wp2_with fail
         go_ret
         exact ⟨rfl,thn3 (thn3 hbW.drew.drew.drew hb6).drew hb7⟩
       | false =>
        cases y with
        | true =>
         have hR1 : R = false:=hno rfl
         clear hno hy'
         subst hR1
         go_wp2_with fail
         go_ret
         exact ⟨rfl,thn3 (thn3 hbW.drew.drew.drew hb6).drew hb7⟩
        | false =>
         have hR1 : R = false:=hno rfl
         clear hno hy'
         subst hR1
         go_wp2_with fail
         go_ret
         exact ⟨rfl,thn3 (thn3 hbW.drew.drew.drew hb6).drew hb7⟩
      | true =>
       simp only [Bool.true_and] at hy' hno
       by_cases hk0 : k = 0
       ·have hk' : (k != 0) = false:=by simp [hk0]
        rw [hk'] at hy' hno
        simp only [Bool.false_or] at hy' hno
        clear hk0
        go_wp2_with fail
        go_region_held3 (fun w' => (w'.cell? ⟨bp,op + i * 3,none⟩ = some (.int .i64 n) /\ w'.cell? ⟨bp,op + i * 3 + 1,none⟩ = some (.int .i64 pw) /\ w'.cell? ⟨bp,op + i * 3 + 2,none⟩ = some (.int .i64 pr)) /\ (w'.cell? ⟨bq,oq + j * 3,none⟩ = some (.int .i64 qt) /\ w'.cell? ⟨bq,oq + j * 3 + 1,none⟩ = some (.int .i64 qw) /\ w'.cell? ⟨bq,oq + j * 3 + 2,none⟩ = some (.int .i64 qr)) /\ w'.cell? ⟨g,1,none⟩ = some (.slice (some ⟨bt,ot,none⟩) tl tc) /\ w'.cell? ⟨bt,ot + n,none⟩ = some (.int .i64 k)) (go_keep) (first | fail)
        go_wp2_with fail
        go_region_held3 (fun w' => (w'.cell? ⟨bp,op + i * 3,none⟩ = some (.int .i64 n) /\ w'.cell? ⟨bp,op + i * 3 + 1,none⟩ = some (.int .i64 pw) /\ w'.cell? ⟨bp,op + i * 3 + 2,none⟩ = some (.int .i64 pr)) /\ (w'.cell? ⟨bq,oq + j * 3,none⟩ = some (.int .i64 qt) /\ w'.cell? ⟨bq,oq + j * 3 + 1,none⟩ = some (.int .i64 qw) /\ w'.cell? ⟨bq,oq + j * 3 + 2,none⟩ = some (.int .i64 qr)) /\ w'.cell? ⟨g,1,none⟩ = some (.slice (some ⟨bt,ot,none⟩) tl tc) /\ w'.cell? ⟨bt,ot + n,none⟩ = some (.int .i64 k)) (go_keep) (first | fail)
        go_wp2_with fail
        go_region_held3 (fun w' => (w'.cell? ⟨bp,op + i * 3,none⟩ = some (.int .i64 n) /\ w'.cell? ⟨bp,op + i * 3 + 1,none⟩ = some (.int .i64 pw) /\ w'.cell? ⟨bp,op + i * 3 + 2,none⟩ = some (.int .i64 pr)) /\ (w'.cell? ⟨bq,oq + j * 3,none⟩ = some (.int .i64 qt) /\ w'.cell? ⟨bq,oq + j * 3 + 1,none⟩ = some (.int .i64 qw) /\ w'.cell? ⟨bq,oq + j * 3 + 2,none⟩ = some (.int .i64 qr)) /\ w'.cell? ⟨g,1,none⟩ = some (.slice (some ⟨bt,ot,none⟩) tl tc) /\ w'.cell? ⟨bt,ot + n,none⟩ = some (.int .i64 k)) (go_keep) (first | (go_at_call 80;refine (hrd1 _ (show Below w.heap.size w wr.drew.drew.drew from hbW.drew.drew.drew)).mono ?_;rintro e w6 ⟨rfl,hb6⟩;have p6:=zdk hb6 pc;have q6:=zdk hb6 qc;have v6:=zaa hb6 vv1;have t6:=zaa hb6 t0))
        go_wp2_with fail
        go_region_held3 (fun w' => (w'.cell? ⟨bp,op + i * 3,none⟩ = some (.int .i64 n) /\ w'.cell? ⟨bp,op + i * 3 + 1,none⟩ = some (.int .i64 pw) /\ w'.cell? ⟨bp,op + i * 3 + 2,none⟩ = some (.int .i64 pr)) /\ (w'.cell? ⟨bq,oq + j * 3,none⟩ = some (.int .i64 qt) /\ w'.cell? ⟨bq,oq + j * 3 + 1,none⟩ = some (.int .i64 qw) /\ w'.cell? ⟨bq,oq + j * 3 + 2,none⟩ = some (.int .i64 qr)) /\ w'.cell? ⟨g,1,none⟩ = some (.slice (some ⟨bt,ot,none⟩) tl tc) /\ w'.cell? ⟨bt,ot + n,none⟩ = some (.int .i64 k)) (go_keep) (first | (go_at_call 80;refine (hrd2 _ (thn3 hbW.drew.drew.drew hb6).drew).mono ?_;rintro e w7 ⟨rfl,hb7⟩;have p7:=zdk hb7 p6;have q7:=zdk hb7 q6;have v7:=zaa hb7 v6;have t7:=zaa hb7 t6))
        cases x with
        | true =>
         cases y with
         | true =>
          clear hno
          go_wp2_with fail
          go_roundw
          case rel => exact ⟨j + 1,by omega,by go_num,hy' rfl,thn3 (thn3 hbj.drew.drew.drew hb6).drew hb7⟩
          case measure => simp [intOf];omega
         | false =>
          have hR1 : R = false:=hno rfl
          clear hno hy'
          subst hR1
          go_wp2_with fail
          go_ret
          exact ⟨rfl,thn3 (thn3 hbW.drew.drew.drew hb6).drew hb7⟩
        | false =>
         cases y with
         | true =>
          have hR1 : R = false:=hno rfl
          clear hno hy'
          subst hR1
          go_wp2_with fail
          go_ret
          exact ⟨rfl,thn3 (thn3 hbW.drew.drew.drew hb6).drew hb7⟩
         | false =>
          have hR1 : R = false:=hno rfl
          clear hno hy'
          subst hR1
          go_wp2_with fail
          go_ret
          exact ⟨rfl,thn3 (thn3 hbW.drew.drew.drew hb6).drew hb7⟩
       ·have hk' : (k != 0) = true:=by simp [hk0]
        rw [hk'] at hy' hno
        simp only [Bool.true_or,forall_const] at hy'
        clear hno hk0
        go_wp2_with fail
        go_region_held3 (fun w' => (w'.cell? ⟨bp,op + i * 3,none⟩ = some (.int .i64 n) /\ w'.cell? ⟨bp,op + i * 3 + 1,none⟩ = some (.int .i64 pw) /\ w'.cell? ⟨bp,op + i * 3 + 2,none⟩ = some (.int .i64 pr)) /\ (w'.cell? ⟨bq,oq + j * 3,none⟩ = some (.int .i64 qt) /\ w'.cell? ⟨bq,oq + j * 3 + 1,none⟩ = some (.int .i64 qw) /\ w'.cell? ⟨bq,oq + j * 3 + 2,none⟩ = some (.int .i64 qr)) /\ w'.cell? ⟨g,1,none⟩ = some (.slice (some ⟨bt,ot,none⟩) tl tc) /\ w'.cell? ⟨bt,ot + n,none⟩ = some (.int .i64 k)) (go_keep) (first | fail)
        go_wp2_with fail
        go_region_held3 (fun w' => (w'.cell? ⟨bp,op + i * 3,none⟩ = some (.int .i64 n) /\ w'.cell? ⟨bp,op + i * 3 + 1,none⟩ = some (.int .i64 pw) /\ w'.cell? ⟨bp,op + i * 3 + 2,none⟩ = some (.int .i64 pr)) /\ (w'.cell? ⟨bq,oq + j * 3,none⟩ = some (.int .i64 qt) /\ w'.cell? ⟨bq,oq + j * 3 + 1,none⟩ = some (.int .i64 qw) /\ w'.cell? ⟨bq,oq + j * 3 + 2,none⟩ = some (.int .i64 qr)) /\ w'.cell? ⟨g,1,none⟩ = some (.slice (some ⟨bt,ot,none⟩) tl tc) /\ w'.cell? ⟨bt,ot + n,none⟩ = some (.int .i64 k)) (go_keep) (first | fail)
        go_wp2_with fail
        go_roundw
        case rel => exact ⟨j + 1,by omega,by go_num,hy',hbj.drew.drew⟩
        case measure => simp [intOf];omega
     ·have hne : ((n : Int) != qt) = true:=by simp [hpq]
      rw [hne] at hy' hno
      simp only [Bool.true_or,forall_const] at hy'
      clear hno hpq
      go_wp2_with fail
      go_region_held3 (fun w' => (w'.cell? ⟨bp,op + i * 3,none⟩ = some (.int .i64 n) /\ w'.cell? ⟨bp,op + i * 3 + 1,none⟩ = some (.int .i64 pw) /\ w'.cell? ⟨bp,op + i * 3 + 2,none⟩ = some (.int .i64 pr)) /\ (w'.cell? ⟨bq,oq + j * 3,none⟩ = some (.int .i64 qt) /\ w'.cell? ⟨bq,oq + j * 3 + 1,none⟩ = some (.int .i64 qw) /\ w'.cell? ⟨bq,oq + j * 3 + 2,none⟩ = some (.int .i64 qr)) /\ w'.cell? ⟨g,1,none⟩ = some (.slice (some ⟨bt,ot,none⟩) tl tc) /\ w'.cell? ⟨bt,ot + n,none⟩ = some (.int .i64 k)) (go_keep) (first | fail)
      go_wp2_with fail
      go_roundw
      case rel => exact ⟨j + 1,by omega,by go_num,hy',hbj.drew⟩
      case measure => simp [intOf];omega
    ·have hX : Hid ((ps.take (i + 1)).all (fun p => qs.all (meB f.ss f.ts kept p)) = true):=by
      show _ = _;rw [HSX.out];have:=hxj.out;rw [List.take_of_length_le (by omega)] at this;exact this
     clear hxj HSX HNX hpo
     go_wp2_with fail
     go_roundw
     case rel => exact ⟨i + 1,by omega,by go_num,hX,hbj⟩
     case measure => simp [intOf];omega
  ·have hR1 : R = true:=by rw [HR.out];have:=hx.out;rw [List.take_of_length_le (by omega)] at this;exact this
   clear hx HR
   subst hR1
   go_wp2_with fail
   go_ret
   exact ⟨rfl,thn3 hB0 hb⟩
end
end Go.Proofs.YtkkekopomiehlaaGreat
