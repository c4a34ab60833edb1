import Derived.Test.YtkkekopomiehlabGreatDoorETw2
set_option linter.unusedVariables false
set_option linter.unusedSimpArgs false
set_option maxHeartbeats 40000000
set_option maxRecDepth 4000
open List renaming setIfInBounds_toArray->xe,getElem_cons_zero->xf,getElem_cons_succ->xg,getElem_toArray->xh,set_cons_zero->xj,set_cons_succ->xm,not_mem_nil->xo,mem_cons->xp,length_map->qd,getElem?_eq_some_iff->qg,getElem?_map->qj
open Go.AllReadyH renaming cons->xq,nil->xy
open Go.Act renaming put->xu
open Go.Value renaming ownBlock->xv,oneCell'->qh
open Nat renaming le_refl->xz,zero_add->qi,zero_le->qk
open Go.World renaming news_of_block->qe
open Or renaming inl->qf
open Go.RowKit
namespace Go.Proofs.YtkkekopomiehlabGreatDoor
section
theorem zq3 {F:Nat->Bool}:∀ n j,rN F n j<=j+n
 |0,j=>xz _
 |n+1,j=>by
  rw[rN];split
  ·have:=zq3 (F:=F) n (j+1);omega
  ·omega
theorem yabv {f:zac}{ms:List (Int×Int)}:(zbd f ms).1<=(ms.length:Int):=by
 cases ho:ordB f with
 |false=>unfold zbd;rw[ho];simp
 |true =>
  rw[zlh (zb3 ho) ho];split
  ·split
   ·have:=zq3 (F:=rsB f ms) ms.length 0;show ((rN (rsB f ms) ms.length 0:Nat):Int)<=_;omega
   ·show (0:Int)<=_;omega
  ·show (0:Int)<=_;omega
theorem yabw {f:zac}{ms:List (Int×Int)}(h:(zbd f ms).2=0):ordB f=true:=by
 cases ho:ordB f with
 |true=>rfl
 |false=>unfold zbd at h;rw[ho]at h;simp at h
def zi8 (f:zac)(ms:List (Int×Int))(w:World)(e:Ending)(W:World):Prop:=(Sfe f ms/\∃ gb r L w0,e=.returned (.tuple #[.pointer (some ⟨gb,0,none⟩),.bool true])/\BookE w0 W L gb r (bok0 f ms false)/\w0.heap.size<=gb/\Below w.heap.size w w0)\/(¬ Sfe f ms/\e=.returned (.tuple #[.pointer none,.bool true])/\Below w.heap.size w W)
theorem zmv (f:zac)(sa ta va:Option Addr)(sl sc tl tc vl vc:Nat)(ms:List (Int×Int))(ma:Option Addr)(mc:Nat)(w:World)(hf:FleetAt w sa sl sc ta tl tc va vl vc f)(hm:MvsAt w ma ms)(hml:ms.length<=2000000) :
  Calls Tryz.prog 13 #[.agg #[.slice sa sl sc,.slice ta tl tc,.slice va vl vc],.slice ma ms.length mc] w fun e W=>zi8 f ms w e W:=by
 have c1:=fun (W:World) (h:Below w.heap.size w W)=>ziz f sa ta va sl sc tl tc vl vc W (hf.keep h);have c2:=fun (sa' ta' va':Option Addr) (sc' tc' vc':Nat) (W:World) (h:Below w.heap.size w W) (hF:FleetAt W sa' f.ss.length sc' ta' f.ts.length tc' va' f.vs.length vc' f)=>zjc f sa' ta' va' f.ss.length sc' f.ts.length tc' f.vs.length vc' ms ma mc W hF hml (hm.keep h);have c3:=fun (W:World) (h:Below w.heap.size w W)=>yacg f sa ta va sl sc tl tc vl vc W (hf.keep h);have F0:=box3 w (.slice sa sl sc) (.slice ta tl tc) (.slice va vl vc) 26;have B0:=zaa (bel1 w (.cells #[.slice sa sl sc,.slice ta tl tc,.slice va vl vc] 26));have hle:=yabv (f:=f) (ms:=ms);by_cases hS:zbd f ms=((ms.length:Int),0)
 ·have hsf:=zlm hS;have c4:=fun (W:World) (h:Below w.heap.size w W)=>zmz f sa ta va sl sc tl tc vl vc ms ma mc false W (hf.keep h) (hm.keep h) hsf;rw[hS]at c2;rw[hsf.ob]at c3;have HSF:=zaa hsf;clear hf hm hle hS hsf hml;obtain⟨n,hn⟩:∃ n,n=ms.length:=⟨_,rfl⟩;rw[<- hn]at c2 c4 ⊢;clear hn
  go_enter Tryz.func13,Tryz.ntmps13
  go_wp2_with (first
   |(go_at_call 21;refine(c1 _ B0.out).mono ?_;rintro e w1 hT;obtain⟨sa',sc',ta',tc',va',vc',rfl,hF,hb1⟩:=hT;have HF1:=zaa hF;have B1:=zaa (thn3 B0.out hb1);have f1:=zaq hb1 F0;clear hF)
   |(go_at_call 25;refine(c2 sa' ta' va' sc' tc' vc' _ B1.out HF1.out).mono ?_;rintro e w2 ⟨rfl,hb2⟩;have B2:=zaa (thn3 B1.out hb2);have f2:=zaq hb2 f1)
   |(go_at_call 26;refine(c3 _ B2.out).mono ?_;rintro e w3 ⟨rfl,hb3⟩;have B3:=zaa (thn3 B2.out hb3);have f3:=zaq hb3 f2)
   |(go_at_call 22;refine(c4 _ B3.out).mono ?_;rintro e w4 hP;obtain⟨gb,r,L,w0,rfl,hB,hz,hb4⟩:=hP;have HB:=zaa hB;have HZ:=zaa hz;have HB4:=zaa (thn3 B3.out hb4);clear hB hz hb4))
  exact bodyPost_ret (v:=.tuple #[.pointer (some ⟨gb,0,none⟩),.bool true]) (by simp[results,Tryz.results13,go_sem]) rfl (.inl ⟨HSF.out,gb,r,L,w0,rfl,HB.out,HZ.out,HB4.out⟩)
 ·have hno:(zbd f ms).2≠0\/(zbd f ms).1<(ms.length:Int):=by
   rcases Int.lt_or_le (zbd f ms).1 (ms.length:Int)with q|q
   ·exact .inr q
   ·refine .inl fun q2=>hS (Prod.ext (by show (zbd f ms).1=(ms.length:Int);omega) q2)
  have c4:=fun (sa' ta' va':Option Addr) (sc' tc' vc':Nat) (W:World) (h:Below w.heap.size w W) (hF:FleetAt W sa' f.ss.length sc' ta' f.ts.length tc' va' f.vs.length vc' f)=>ztw f sa' ta' va' f.ss.length sc' f.ts.length tc' f.vs.length vc' ms ma mc W hF (hm.keep h) hml hno;have hor:=yabw (f:=f) (ms:=ms);unfold staE at c4;have HNS:Hid (¬ Sfe f ms):=fun q=>hS (zrn q);clear hf hm hS hle hml;generalize (zbd f ms).1=x at *;generalize (zbd f ms).2=y at *;by_cases hy:y=0
  ·subst hy;rw[hor rfl]at c3;have hx:x<(ms.length:Int):=by omega
   rw[if_pos rfl]at c4;clear hno hor;obtain⟨n,hn⟩:∃ n,n=ms.length:=⟨_,rfl⟩;rw[<- hn]at c2 c4 hx ⊢;clear hn
   go_enter Tryz.func13,Tryz.ntmps13
   go_wp2_with (first
    |(go_at_call 21;have hq:=B3;refine(c1 _ B3.out).mono ?_;rintro e w4 hT;obtain⟨sb',sd',tb',td',vb',vd',rfl,hF,hb4⟩:=hT;have HF4:=zaa hF;have B4:=zaa (thn3 B3.out hb4);clear hF)
    |(go_at_call 21;refine(c1 _ B0.out).mono ?_;rintro e w1 hT;obtain⟨sa',sc',ta',tc',va',vc',rfl,hF,hb1⟩:=hT;have HF1:=zaa hF;have B1:=zaa (thn3 B0.out hb1);have f1:=zaq hb1 F0;clear hF)
    |(go_at_call 25;refine(c2 sa' ta' va' sc' tc' vc' _ B1.out HF1.out).mono ?_;rintro e w2 ⟨rfl,hb2⟩;have B2:=zaa (thn3 B1.out hb2);have f2:=zaq hb2 f1)
    |(go_at_call 26;refine(c3 _ B2.out).mono ?_;rintro e w3 ⟨rfl,hb3⟩;have B3:=zaa (thn3 B2.out hb3);have f3:=zaq hb3 f2)
    |(go_at_call 27;refine(c4 sb' tb' vb' sd' td' vd' _ B4.out HF4.out).mono ?_;rintro e w5 ⟨rfl,hb5⟩))
   exact bodyPost_ret (v:=.tuple #[.pointer none,.bool true]) (by simp[results,Tryz.results13,go_sem]) rfl (.inr ⟨HNS.out,rfl,thn3 B4.out hb5⟩)
  ·rw[if_neg hy]at c4;have e1:(y == 0)=false:=by simp[hy]
   have e2:decide (y=0)=false:=by simp[hy]
   have e3:(y == y)=true:=by simp
   have e4:decide (y=y)=true:=by simp
   clear hno hor;generalize ordB f=ob at *;obtain⟨n,hn⟩:∃ n,n=ms.length:=⟨_,rfl⟩;rw[<- hn]at c2 c4 ⊢;clear hn
   go_enter Tryz.func13,Tryz.ntmps13
   go_wp2_with (first
    |(go_at_call 21;have hq:=B3;refine(c1 _ B3.out).mono ?_;rintro e w4 hT;obtain⟨sb',sd',tb',td',vb',vd',rfl,hF,hb4⟩:=hT;have HF4:=zaa hF;have B4:=zaa (thn3 B3.out hb4);clear hF)
    |(go_at_call 21;refine(c1 _ B0.out).mono ?_;rintro e w1 hT;obtain⟨sa',sc',ta',tc',va',vc',rfl,hF,hb1⟩:=hT;have HF1:=zaa hF;have B1:=zaa (thn3 B0.out hb1);have f1:=zaq hb1 F0;clear hF)
    |(go_at_call 25;refine(c2 sa' ta' va' sc' tc' vc' _ B1.out HF1.out).mono ?_;rintro e w2 ⟨rfl,hb2⟩;have B2:=zaa (thn3 B1.out hb2);have f2:=zaq hb2 f1)
    |(go_at_call 26;refine(c3 _ B2.out).mono ?_;rintro e w3 ⟨rfl,hb3⟩;have B3:=zaa (thn3 B2.out hb3);have f3:=zaq hb3 f2)
    |(go_at_call 27;refine(c4 sb' tb' vb' sd' td' vd' _ B4.out HF4.out).mono ?_;rintro e w5 ⟨rfl,hb5⟩))
   exact bodyPost_ret (v:=.tuple #[.pointer none,.bool true]) (by simp[results,Tryz.results13,go_sem]) rfl (.inr ⟨HNS.out,rfl,thn3 B4.out hb5⟩)
theorem zug {f:zac}{sa ta va:Option Addr}{sl sc tl tc vl vc:Nat}{ms:List (Int×Int)}{ma:Option Addr}{mc:Nat}{w:World}(hS:Sfe f ms)(h:Calls Tryz.prog 13 #[.agg #[.slice sa sl sc,.slice ta tl tc,.slice va vl vc],.slice ma ms.length mc] w fun e W=>zi8 f ms w e W):Calls Tryz.prog 13 #[.agg #[.slice sa sl sc,.slice ta tl tc,.slice va vl vc],.slice ma ms.length mc] w fun e W=>∃ gb r L w0,e=.returned (.tuple #[.pointer (some ⟨gb,0,none⟩),.bool true])/\BookE w0 W L gb r (bok0 f ms false)/\w0.heap.size<=gb/\Below w.heap.size w w0 :=
 h.mono fun e W q=>by
  rcases q with⟨_,q⟩|⟨q,_⟩
  ·exact q
  ·exact absurd hS q
theorem zuf {f:zac}{sa ta va:Option Addr}{sl sc tl tc vl vc:Nat}{ms:List (Int×Int)}{ma:Option Addr}{mc:Nat}{w:World}(hS:¬ Sfe f ms)(h:Calls Tryz.prog 13 #[.agg #[.slice sa sl sc,.slice ta tl tc,.slice va vl vc],.slice ma ms.length mc] w fun e W=>zi8 f ms w e W):Calls Tryz.prog 13 #[.agg #[.slice sa sl sc,.slice ta tl tc,.slice va vl vc],.slice ma ms.length mc] w fun e W=>e=.returned (.tuple #[.pointer none,.bool true])/\Below w.heap.size w W :=
 h.mono fun e W q=>by
  rcases q with⟨q,_⟩|⟨_,q⟩
  ·exact absurd q hS
  ·exact q
end
section
set_option maxRecDepth 100000
end
section
end
section
end
section
theorem zbt (w:World)(o:Obj):(w.alloc o).heap[w.heap.size]?=some o:=by show (w.heap.push o)[w.heap.size]?=some o;simp
theorem zem (a b:Int)(w:World):Calls Tryz.prog 45 #[.int .i64 a,.int .i64 b] w fun e W=>∃ g,e=.returned (.agg #[.slice (some ⟨g,0,none⟩) 1 1])/\RowIs W g 165 [.int .i64 0,.int .i64 a,.int .i64 b]/\Below w.heap.size w W:=by
 go_enter Tryz.func45,Tryz.ntmps45
 go_wp2_with fail
 refine bodyPost_ret (v:=.agg #[.slice (some ⟨w.heap.size+1,0,none⟩) 1 1]) (by simp[results,Tryz.results45,go_sem]) rfl ?_;refine⟨w.heap.size+1,rfl,?_,thn3 (bel1 _ _) (bel1 _ _)⟩;have:=zbt (w.alloc (.cells #[.slice (some ⟨w.heap.size+1,0,none⟩) 1 1] 108)) (.cells #[.int .i64 0,.int .i64 a,.int .i64 b] 165);rw[show (w.alloc (.cells #[.slice (some ⟨w.heap.size+1,0,none⟩) 1 1] 108)).heap.size=w.heap.size+1 by simp]at this;exact this
theorem yae6 (sz:Int)(w:World):Calls Tryz.prog 43 #[.int .i64 sz] w fun e W=>∃ g p1 p2,e=.returned (.agg #[.int .i64 sz,.int .i64 0,.int .i64 1,.slice (some ⟨g,0,none⟩) 2 2])/\RowIs W g 108 [.slice (some ⟨p1,0,none⟩) 1 1,.slice (some ⟨p2,0,none⟩) 1 1]/\RowIs W p1 165 [.int .i64 0,.int .i64 0,.int .i64 (-1)]/\RowIs W p2 165 [.int .i64 0,.int .i64 1,.int .i64 (-1)]/\Below w.heap.size w W:=by
 have c1:=fun W=>zem 0 (-1) W;have c2:=fun W=>zem 1 (-1) W;have z0:RowIs (w.alloc (.cells #[.int .i64 0,.int .i64 0,.int .i64 0,.slice none 0 0] 73)) w.heap.size 73 [.int .i64 0,.int .i64 0,.int .i64 0,.slice none 0 0]:=zbt _ _;have Z0:= zaa z0;clear z0
 go_enter Tryz.func43,Tryz.ntmps43
 go_wp2_with (first
  |(go_at_call 45;have hq:=hb1;refine(c2 _).mono ?_;rintro e w2 ⟨p2,rfl,hr2,hb2⟩;have HR1:=(zaa (hr1.out.keep hb2));have HR2:= zaa hr2;have Z2:=(zaa (((Z0.out.keep hb1).keep hb2).keep (bel1 w2 (.cells #[.slice (some ⟨p1,0,none⟩) 1 1,.slice (some ⟨p2,0,none⟩) 1 1] 108))));have y0:=Z2.out.cell (j:=0) rfl;have y1:=Z2.out.cell (j:=1) rfl;have y2:=Z2.out.cell (j:=2) rfl;have y3:=Z2.out.cell (j:=3) rfl;have x0:=Z2.out.frozen 0;have x1:=Z2.out.frozen 1;have x2:=Z2.out.frozen 2;have x3:=Z2.out.frozen 3)
  |(go_at_call 45;refine(c1 _).mono ?_;rintro e w1 ⟨p1,rfl,hr1,hb1⟩;have hr1:=(zaa hr1)))
 have Z3:=(((Z2.out.set 0 (.int .i64 sz)).set 1 (.int .i64 0)).set 2 (.int .i64 1)).set 3 (.slice (some ⟨w2.heap.size,0,none⟩) 2 2);have k0:=Z3.cell (j:=0) rfl;have k1:=Z3.cell (j:=1) rfl;have k2:=Z3.cell (j:=2) rfl;have k3:=Z3.cell (j:=3) rfl;have hB2:=thn3 (thn3 (thn3 (bel1 w _) hb1) hb2) (bel1 w2 (.cells #[.slice (some ⟨p1,0,none⟩) 1 1,.slice (some ⟨p2,0,none⟩) 1 1] 108));have lz:=((Z0.out.keep hb1).keep hb2).lt;have n1:=(HR1.out.keep (bel1 w2 (.cells #[.slice (some ⟨p1,0,none⟩) 1 1,.slice (some ⟨p2,0,none⟩) 1 1] 108))).ne Z2.out (by decide);have n2:=(HR2.out.keep (bel1 w2 (.cells #[.slice (some ⟨p1,0,none⟩) 1 1,.slice (some ⟨p2,0,none⟩) 1 1] 108))).ne Z2.out (by decide);refine bodyPost_ret (v:=.agg #[.int .i64 sz,.int .i64 0,.int .i64 1,.slice (some ⟨w2.heap.size,0,none⟩) 2 2]) (by simp[results,Tryz.results43,go_sem,k0,k1,k2,k3]) rfl ?_;refine⟨w2.heap.size,p1,p2,rfl,?_,?_,?_,(((hB2.setCell (xz _) _).setCell (xz _) _).setCell (xz _) _).setCell (xz _) _⟩
 ·have hne:(⟨w.heap.size,0,none⟩:Addr).block≠w2.heap.size:=by show w.heap.size≠_;omega
  exact((((show RowIs (w2.alloc (.cells #[.slice (some ⟨p1,0,none⟩) 1 1,.slice (some ⟨p2,0,none⟩) 1 1] 108)) w2.heap.size 108 _ from zbt _ _).setOther (by exact hne) _).setOther (by exact hne) _).setOther (by exact hne) _).setOther (by exact hne) _
 ·exact((((HR1.out.keep (bel1 w2 (.cells #[.slice (some ⟨p1,0,none⟩) 1 1,.slice (some ⟨p2,0,none⟩) 1 1] 108))).setOther (by exact n1.symm) _).setOther (by exact n1.symm) _).setOther (by exact n1.symm) _).setOther (by exact n1.symm) _
 ·exact((((HR2.out.keep (bel1 w2 (.cells #[.slice (some ⟨p1,0,none⟩) 1 1,.slice (some ⟨p2,0,none⟩) 1 1] 108))).setOther (by exact n2.symm) _).setOther (by exact n2.symm) _).setOther (by exact n2.symm) _).setOther (by exact n2.symm) _
theorem yabf (sz:Int)(w:World):Calls Tryz.prog 44 #[.int .i64 sz] w fun e W=>∃ g p1 p2,e=.returned (.agg #[.int .i64 sz,.int .i64 0,.int .i64 1,.slice (some ⟨g,0,none⟩) 2 2])/\RowIs W g 108 [.slice (some ⟨p1,0,none⟩) 1 1,.slice (some ⟨p2,0,none⟩) 1 1]/\RowIs W p1 165 [.int .i64 0,.int .i64 (-1),.int .i64 0]/\RowIs W p2 165 [.int .i64 0,.int .i64 (-1),.int .i64 1]/\Below w.heap.size w W/\w.heap.size<=g:=by
 have c1:=fun W=>zem (-1) 0 W;have c2:=fun W=>zem (-1) 1 W;have z0:RowIs (w.alloc (.cells #[.int .i64 0,.int .i64 0,.int .i64 0,.slice none 0 0] 73)) w.heap.size 73 [.int .i64 0,.int .i64 0,.int .i64 0,.slice none 0 0]:=zbt _ _;have Z0:= zaa z0;clear z0
 go_enter Tryz.func44,Tryz.ntmps44
 go_wp2_with (first
  |(go_at_call 45;have hq:=hb1;refine(c2 _).mono ?_;rintro e w2 ⟨p2,rfl,hr2,hb2⟩;have HR1:=(zaa (hr1.out.keep hb2));have HR2:= zaa hr2;have Z2:=(zaa (((Z0.out.keep hb1).keep hb2).keep (bel1 w2 (.cells #[.slice (some ⟨p1,0,none⟩) 1 1,.slice (some ⟨p2,0,none⟩) 1 1] 108))));have y0:=Z2.out.cell (j:=0) rfl;have y1:=Z2.out.cell (j:=1) rfl;have y2:=Z2.out.cell (j:=2) rfl;have y3:=Z2.out.cell (j:=3) rfl;have x0:=Z2.out.frozen 0;have x1:=Z2.out.frozen 1;have x2:=Z2.out.frozen 2;have x3:=Z2.out.frozen 3)
  |(go_at_call 45;refine(c1 _).mono ?_;rintro e w1 ⟨p1,rfl,hr1,hb1⟩;have hr1:=(zaa hr1)))
 have Z3:=(((Z2.out.set 0 (.int .i64 sz)).set 1 (.int .i64 0)).set 2 (.int .i64 1)).set 3 (.slice (some ⟨w2.heap.size,0,none⟩) 2 2);have k0:=Z3.cell (j:=0) rfl;have k1:=Z3.cell (j:=1) rfl;have k2:=Z3.cell (j:=2) rfl;have k3:=Z3.cell (j:=3) rfl;have hB2:=thn3 (thn3 (thn3 (bel1 w _) hb1) hb2) (bel1 w2 (.cells #[.slice (some ⟨p1,0,none⟩) 1 1,.slice (some ⟨p2,0,none⟩) 1 1] 108));have lz:=((Z0.out.keep hb1).keep hb2).lt;have n1:=(HR1.out.keep (bel1 w2 (.cells #[.slice (some ⟨p1,0,none⟩) 1 1,.slice (some ⟨p2,0,none⟩) 1 1] 108))).ne Z2.out (by decide);have n2:=(HR2.out.keep (bel1 w2 (.cells #[.slice (some ⟨p1,0,none⟩) 1 1,.slice (some ⟨p2,0,none⟩) 1 1] 108))).ne Z2.out (by decide);refine bodyPost_ret (v:=.agg #[.int .i64 sz,.int .i64 0,.int .i64 1,.slice (some ⟨w2.heap.size,0,none⟩) 2 2]) (by simp[results,Tryz.results44,go_sem,k0,k1,k2,k3]) rfl ?_;refine⟨w2.heap.size,p1,p2,rfl,?_,?_,?_,(((hB2.setCell (xz _) _).setCell (xz _) _).setCell (xz _) _).setCell (xz _) _,by omega⟩
 ·have hne:(⟨w.heap.size,0,none⟩:Addr).block≠w2.heap.size:=by show w.heap.size≠_;omega
  exact((((show RowIs (w2.alloc (.cells #[.slice (some ⟨p1,0,none⟩) 1 1,.slice (some ⟨p2,0,none⟩) 1 1] 108)) w2.heap.size 108 _ from zbt _ _).setOther (by exact hne) _).setOther (by exact hne) _).setOther (by exact hne) _).setOther (by exact hne) _
 ·exact((((HR1.out.keep (bel1 w2 (.cells #[.slice (some ⟨p1,0,none⟩) 1 1,.slice (some ⟨p2,0,none⟩) 1 1] 108))).setOther (by exact n1.symm) _).setOther (by exact n1.symm) _).setOther (by exact n1.symm) _).setOther (by exact n1.symm) _
 ·exact((((HR2.out.keep (bel1 w2 (.cells #[.slice (some ⟨p1,0,none⟩) 1 1,.slice (some ⟨p2,0,none⟩) 1 1] 108))).setOther (by exact n2.symm) _).setOther (by exact n2.symm) _).setOther (by exact n2.symm) _).setOther (by exact n2.symm) _
end
section
def zjg (j:Nat)(k a b:Int)(w:World)(e:Ending)(W:World):Prop:=∃ sa sl sc ta tl tc va vl vc ma mc,e=.returned (.tuple #[.agg #[.slice sa sl sc,.slice ta tl tc,.slice va vl vc],.slice ma (tlM j).length mc])/\FleetAt W sa sl sc ta tl tc va vl vc (tlF j k a b)/\MvsAt W ma (tlM j)/\Below w.heap.size w W
theorem Tryz.infoOneS:(Tryz.prog.info? 22).map (·.size)=some 1:=by kernel_rfl
theorem Tryz.infoOneV:(Tryz.prog.info? 24).map (·.size)=some 1:=by kernel_rfl
theorem Tryz.infoOneI:(Tryz.prog.info? 3).map (·.size)=some 1:=by kernel_rfl
def nilF:List Value:=[.slice none 0 0,.slice none 0 0,.slice none 0 0]
theorem zew {W:World}{f:zac}{gs gt gv:Nat}{t1 t2 t3:TypeId}{L:List (SvcD×Nat×Nat)}{k:Int}(h1:RowIs W gs t1 (f.ss.map Value.string))(h2:RowIs W gt t2 [.int .i64 k])(h3:RowIs W gv t3 (L.flatMap fun q=>[.int .i64 q.1.size,.int .i64 q.1.now,.int .i64 q.1.want,.slice (some ⟨q.2.1,0,none⟩) q.1.rels.length q.2.2]))(h4:∀ q∈L,RelSl PinSl W (some ⟨q.2.1,0,none⟩) q.1.rels.length q.2.2 q.1.rels)(hk:f.ts=[k])(hv:f.vs=L.map Prod.fst)(hs:f.ss.length<=3)(hs2:∀ s∈f.ss,s.size<=60)(hl:L.length<=3)(c1 c2 c3:Nat):FleetAt W (some ⟨gs,0,none⟩) f.ss.length c1 (some ⟨gt,0,none⟩) 1 c2 (some ⟨gv,0,none⟩) L.length c3 f:=by
 refine⟨rfl,by omega,fun s hs'=>by have:=hs2 s hs';unfold maxLen;omega,yac2 h1,by rw[hk];rfl,by rw[hk];simp,?_,by rw[hv,qd],by rw[hv,qd];omega,by rw[hv];exact yac7 h3 h4⟩;rw[hk];intro i x hi;have:i=0:=by have:=(qg.1 hi).1;simpa using this
 subst this;simp at hi;subst hi;exact⟨gt,0,rfl,h2.cell (j:=0) rfl⟩
theorem zcs (j:Nat)(k a b:Int):(tlF j k a b).ss.length<=3/\∀ s∈(tlF j k a b).ss,s.size<=60:=by
 unfold tlF;split
 all_goals
  refine⟨by simp,fun s hs=>?_⟩;simp only[xp,xo,or_false]at hs
 iterate 3
  ·rcases hs with rfl|rfl<;>decide
 ·rcases hs with rfl|rfl|rfl<;>decide
 ·rcases hs with rfl|rfl<;>decide
theorem Tryz.infoRelQ:(Tryz.prog.info? 108).map (fun i=>(i.zero,i.size,i.bytes))=some (some (.agg #[.slice none 0 0]),1,24):=by kernel_rfl
theorem zlc {w:World}{g:Nat}{e:TypeId}{cs:List Value}{n:Nat}(h:RowIs w g e cs)(hn:cs.length=n:=by rfl)(hm:n<=9000000:=by omega):w.ownsRow 0 e 1 (.slice (some ⟨g,0,none⟩) n n) n cs :=
 ⟨by omega,.inr ⟨g,n,cs.toArray,rfl,qk _,h,xz _,by unfold maxLen;omega,by simp;omega,by rw[Nat.mul_one,List.take_of_length_le (by simp;omega)]⟩⟩
theorem zla {W:World}{g c:Nat}{L:List (Nat×PinD)}(h:W.ownsRow 0 108 1 (.slice (some ⟨g,0,none⟩) L.length c) L.length (L.map fun q=>.slice (some ⟨q.1,0,none⟩) 1 1))(hp:∀ q∈L,RowIs W q.1 165 (pinF q.2))(hl:L.length<=3):RelSl PinSl W (some ⟨g,0,none⟩) L.length c (L.map fun q=>[q.2]):=by
 obtain⟨a,c',e,h1,h2⟩:=zbb h (by omega);cases e;have hc:c<=9223372036854775807:=by
  rcases h.2 with⟨q,_⟩|⟨g',cap,cur,q,_,_,_,q2,_⟩
  ·cases q
  ·cases q;unfold maxLen at q2;omega
 refine⟨by rw[qd],by rw[qd];omega,h1,hc,fun i ps hi=>?_⟩;rw[qj]at hi;obtain⟨q,hq,rfl⟩:=Option.map_eq_some_iff.1 hi;obtain⟨b,e1,_,e3⟩:=h2 i (.slice (some ⟨q.1,0,none⟩) 1 1) (by rw[qj,hq];rfl);refine⟨b,0,some ⟨q.1,0,none⟩,1,1,e1,by rw[qi];exact e3,rfl,by simp,by omega,by omega,fun j p hj=>?_⟩;have hj0:j=0:=by have:=(qg.1 hj).1;simpa using this
 subst hj0;simp at hj;subst hj;have r:=hp q (List.mem_of_getElem? hq);exact⟨q.1,0,rfl,r.cell (j:=0) rfl,r.cell (j:=1) rfl,r.cell (j:=2) rfl⟩
theorem yadi (c keep n m:Int)(hc:-9223372036854775808<=c/\c<=9223372036854775807)(hk:-9223372036854775808<=keep/\keep<=9223372036854775807)(hn:-9223372036854775808<=n/\n<=9223372036854775807)(hm:-9223372036854775808<=m/\m<=9223372036854775807)(w:World) :
  Calls Tryz.prog 19 #[.int .i64 c,.int .i64 keep,.int .i64 n,.int .i64 m] w fun e W=>zjg (pckN c 5) (1+(pckN keep 6:Nat)) (1+(pckN n 3:Nat)) (1+(pckN m 3:Nat)) w e W:=by
 have p1:=fun W=>zcj keep 6 hk (by omega) (by omega) W;have p2:=fun W=>zcj n 3 hn (by omega) (by omega) W;have p3:=fun W=>zcj m 3 hm (by omega) (by omega) W;have p4:=fun W=>zcj c 5 hc (by omega) (by omega) W;have b1:=zbn keep (n:=6) (by omega);have b2:=zbn n (n:=3) (by omega);have b3:=zbn m (n:=3) (by omega);have b4:=zbn c (n:=5) (by omega);generalize pckN keep 6=kk at *;generalize pckN n 3=na at *;generalize pckN m 3=nb at *;generalize pckN c 5=j at *;have c1:=fun W=>yae6 (1+(na:Int)) W;have c2:=fun W=>yabf (1+(nb:Int)) W;have rA:=fun W=>zem 0 0 W;have rB:=fun W=>zem 0 1 W;have rC:=fun W=>zem 1 1 W;have rD:=fun W=>zem (-1) 2 W;obtain⟨iR,hiR,zR0,zR1,zR2⟩:=info_parts Tryz.infoRelQ;have Z0:Hid (RowIs (w.alloc (.cells #[.slice none 0 0,.slice none 0 0,.slice none 0 0] 26)) w.heap.size 26 nilF):=zbt _ _;have hj:j=0\/j=1\/j=2\/j=3\/j=4:=by omega
 clear hc hk hn hm b4;rcases hj with rfl|rfl|rfl|rfl|rfl
 all_goals
  go_enter Tryz.func19,Tryz.ntmps19
  go_wp2_with (first
   |(go_at_call 42;have hq:=h3;refine(p4 _).mono ?_;rintro e _ ⟨rfl,rfl⟩)
   |(go_at_call 42;have hq:=h2;refine(p3 _).mono ?_;rintro e _ ⟨rfl,rfl⟩;have h3:=zaa hq)
   |(go_at_call 42;have hq:=h1;refine(p2 _).mono ?_;rintro e _ ⟨rfl,rfl⟩;have h2:=zaa hq)
   |(go_at_call 42;refine(p1 _).mono ?_;rintro e _ ⟨rfl,rfl⟩;have h1:=zaa b1)
   |(go_at_call 43;refine(c1 _).mono ?_;rintro e w4 ⟨g1,a1,a2,rfl,hr1,hr2,hr3,hb4⟩)
   |(go_at_call 44;refine(c2 _).mono ?_;rintro e w5 ⟨g2,a3,a4,rfl,hr4,hr5,hr6,hb5,hg2⟩;have lg2w:=zaa (show w.heap.size<=g2 from(by have:=hb4.size;simp at this;omega));clear hg2;have T5:=zaa (((show RowIs ((w.alloc (.cells #[.slice none 0 0,.slice none 0 0,.slice none 0 0] 26)).alloc (.cells #[.int .i64 (1+(kk:Int))] 104)) (w.heap.size+1) 104 [.int .i64 (1+(kk:Int))]from nw2 _ _ _).keep hb4).keep hb5);have Z5:=zaa (((Z0.out.keep (bel1 _ (.cells #[.int .i64 (1+(kk:Int))] 104))).keep hb4).keep hb5);have B5:=zaa (thn3 (thn3 (thn3 (bel1 w (.cells #[.slice none 0 0,.slice none 0 0,.slice none 0 0] 26)) (bel1 _ (.cells #[.int .i64 (1+(kk:Int))] 104))) hb4) hb5);have A1:=zaa (hr1.keep hb5);have A2:=zaa (hr2.keep hb5);have A3:=zaa (hr3.keep hb5);have A4:=zaa hr4;have A5:=zaa hr5;have A6:=zaa hr6;have lz:=Z5.out.lt;have lt5:=T5.out.lt;clear hr1 hr2 hr3 hr4 hr5 hr6 hb4 hb5)
   |(refine zi5 rfl 22 _ _ rfl (w5.heap.size+1) 0 (.slice (some ⟨w5.heap.size+2,0,none⟩) 2 2) 26 [.slice none 0 0,.slice (some ⟨w.heap.size+1,0,none⟩) 1 1,.slice (some ⟨w5.heap.size,0,none⟩) 2 2] rfl rfl (RowIs.keep (show RowIs _ (w5.heap.size+1) 26 [.slice none 0 0,.slice (some ⟨w.heap.size+1,0,none⟩) 1 1,.slice (some ⟨w5.heap.size,0,none⟩) 2 2]from nw2 w5 _ _) (bel1 _ _)) (by simp) Tryz.infoOneS rfl ?_;intro w7 R7 C7;(try simp only[xu,xe,xj,xm,xh,xf,xg]);have k0:=R7.cell (j:=0) rfl;have k1:=R7.cell (j:=1) rfl;have k2:=R7.cell (j:=2) rfl;have R7:=zaa R7;have C7:=zaa C7)
   |(refine zi5 rfl 22 _ _ rfl (w5.heap.size+1) 0 (.slice (some ⟨w5.heap.size+2,0,none⟩) 3 3) 26 [.slice none 0 0,.slice (some ⟨w.heap.size+1,0,none⟩) 1 1,.slice (some ⟨w5.heap.size,0,none⟩) 2 2] rfl rfl (RowIs.keep (show RowIs _ (w5.heap.size+1) 26 [.slice none 0 0,.slice (some ⟨w.heap.size+1,0,none⟩) 1 1,.slice (some ⟨w5.heap.size,0,none⟩) 2 2]from nw2 w5 _ _) (bel1 _ _)) (by simp) Tryz.infoOneS rfl ?_;intro w7 R7 C7;(try simp only[xu,xe,xj,xm,xh,xf,xg]);have k0:=R7.cell (j:=0) rfl;have k1:=R7.cell (j:=1) rfl;have k2:=R7.cell (j:=2) rfl;have R7:=zaa R7;have C7:=zaa C7)
   |(refine zi5 rfl 3 _ _ rfl (w.heap.size+1) 0 (.int .i64 0) 104 [.int .i64 (1+(kk:Int))] rfl rfl (C7.out.row (RowIs.keep (RowIs.keep (RowIs.keep T5.out (bel1 _ _)) (bel1 _ _)) (bel1 _ _)) (by omega)) (by simp) Tryz.infoOneI rfl ?_;intro w8 R8 C8;(try simp only[xu,xe,xj,xm,xh,xf,xg]);have k0:=(C8.row R7.out (by omega)).cell (j:=0) rfl;have k1:=(C8.row R7.out (by omega)).cell (j:=1) rfl;have k2:=(C8.row R7.out (by omega)).cell (j:=2) rfl;have R8:=zaa R8;have C8:=zaa C8)
   |(go_at_call 45;refine(rA _).mono ?_;rintro e w8 ⟨q1,rfl,hq1,hb8⟩;have Q1:=zaa hq1;clear hq1)
   |(go_at_call 45;refine(rB _).mono ?_;rintro e w9 ⟨q2,rfl,hq2,hb9⟩;have Q2:=zaa hq2;clear hq2)
   |(go_at_call 45;refine(rC _).mono ?_;rintro e w10 ⟨q3,rfl,hq3,hb10⟩;have Q3:=zaa hq3;have HB:=zaa (thn3 (thn3 hb8 hb9) hb10);have P1:=zaa ((Q1.out.keep hb9).keep hb10);have P2:=zaa (Q2.out.keep hb10);have R10:=zaa (R7.out.keep HB.out);have l10:=R10.out.lt;clear hq3)
   |(have hq:=R10;refine zi5 rfl 24 _ _ rfl (w5.heap.size+1) 2 (.slice (some ⟨w10.heap.size+1,0,none⟩) 1 1) 26 _ rfl rfl (RowIs.keep (RowIs.keep R10.out (bel1 _ _)) (bel1 _ _)) (by simp) Tryz.infoOneV rfl ?_;intro w11 R11 C11;(try simp only[xu,xe,xj,xm,xh,xf,xg]);have k0:=R11.cell (j:=0) rfl;have k1:=R11.cell (j:=1) rfl;have k2:=R11.cell (j:=2) rfl;have R11:=zaa R11;have C11:=zaa C11;have Z11:=zaa (C11.out.row (RowIs.keep (RowIs.keep (RowIs.keep (C7.out.row (RowIs.keep (RowIs.keep (RowIs.keep Z5.out (bel1 _ _)) (bel1 _ _)) (bel1 _ _)) (by omega)) HB.out) (bel1 _ _)) (bel1 _ _)) (by omega)))
   |(have hq:=C11;refine zdd rfl 26 _ _ rfl w.heap.size [.slice (some ⟨w5.heap.size+2,0,none⟩) 2 2,.slice (some ⟨w.heap.size+1,0,none⟩) 1 1,.slice (some ⟨w10.heap.size+1,0,none⟩) 1 1] nilF _ rfl rfl (RowIs.keep Z11.out (bel1 _ _)) rfl Tryz.infoFlt3 one3 ?_;intro w12 R12 C12;(try simp only[xu,xe,xj,xm,xh,xf,xg]))
   |(have hq:=C8;refine zdd rfl 26 _ _ rfl w.heap.size [.slice (some ⟨w5.heap.size+2,0,none⟩) 2 2,.slice (some ⟨w.heap.size+1,0,none⟩) 1 1,.slice (some ⟨w5.heap.size,0,none⟩) 2 2] nilF _ rfl rfl (RowIs.keep (C8.out.row (C7.out.row (RowIs.keep (RowIs.keep (RowIs.keep Z5.out (bel1 _ _)) (bel1 _ _)) (bel1 _ _)) (by omega)) (by omega)) (bel1 _ _)) rfl Tryz.infoFlt3 one3 ?_;intro w9 R9 C9;(try simp only[xu,xe,xj,xm,xh,xf,xg]))
   |(refine zdd rfl 26 _ _ rfl w.heap.size [.slice (some ⟨w5.heap.size+2,0,none⟩) 2 2,.slice (some ⟨w.heap.size+1,0,none⟩) 1 1,.slice (some ⟨w5.heap.size,0,none⟩) 2 2] nilF _ rfl rfl (RowIs.keep (C7.out.row (RowIs.keep (RowIs.keep (RowIs.keep Z5.out (bel1 _ _)) (bel1 _ _)) (bel1 _ _)) (by omega)) (bel1 _ _)) rfl Tryz.infoFlt3 one3 ?_;intro w9 R9 C9;(try simp only[xu,xe,xj,xm,xh,xf,xg])))
 ·have tr:∀ {b:Nat} {t:TypeId} {cs:List Value},RowIs w5 b t cs->t≠26->RowIs w9 b t cs:=fun {b t cs} h ht=>by
   have l:=h.lt;exact C9.row (RowIs.keep (C7.out.row (RowIs.keep (RowIs.keep (RowIs.keep h (bel1 _ _)) (bel1 _ _)) (bel1 _ _)) (by omega)) (bel1 _ _)) (fun q=>h.ne Z5.out ht q)
  have l7:w5.heap.size+3<=w7.heap.size:=by have:=C7.out.size;simp at this;omega
  have o0:=R9.cell (j:=0) rfl;have o1:=R9.cell (j:=1) rfl;have o2:=R9.cell (j:=2) rfl;refine bodyPost_ret (v:=.tuple #[.agg #[.slice (some ⟨w5.heap.size+2,0,none⟩) 2 2,.slice (some ⟨w.heap.size+1,0,none⟩) 1 1,.slice (some ⟨w5.heap.size,0,none⟩) 2 2],.slice (some ⟨w7.heap.size,0,none⟩) 2 2]) (by simp[results,Tryz.results19,go_sem,o0,o1,o2]) rfl ?_;have sS:=C9.row (RowIs.keep (C7.out.row (show RowIs _ (w5.heap.size+2) 9 _ from nw3' w5 _ _ _) (by omega)) (bel1 _ _)) (by omega);have sV:=C9.row (RowIs.keep (C7.out.row (RowIs.keep (RowIs.keep (show RowIs _ w5.heap.size 73 _ from zbt w5 _) (bel1 _ _)) (bel1 _ _)) (by omega)) (bel1 _ _)) (by omega);have sM:=C9.row (show RowIs _ w7.heap.size 62 _ from zbt w7 _) (by omega);refine⟨_,2,2,_,1,1,_,2,2,_,2,rfl,zew (f:=tlF 0 _ _ _) (L:=[(svW (1+(na:Int)),g1,2),(svR (1+(nb:Int)),g2,2)]) sS (tr T5.out (by decide)) sV (fun q hq=>?_) rfl rfl (zcs _ _ _ _).1 (zcs _ _ _ _).2 (by simp) 2 1 2,zez sM,?_⟩
  ·simp only[xp,xo,or_false]at hq;rcases hq with rfl|rfl
   ·exact zds (L:=[(a1,⟨0,0,-1⟩),(a2,⟨0,1,-1⟩)]) (tr A1.out (by decide)) (fun q hq=>by
     simp only[xp,xo,or_false]at hq;rcases hq with rfl|rfl
     ·exact tr A2.out (by decide)
     ·exact tr A3.out (by decide)) (by simp) (by simp) (by simp)
   ·exact zds (L:=[(a3,⟨0,-1,0⟩),(a4,⟨0,-1,1⟩)]) (tr A4.out (by decide)) (fun q hq=>by
     simp only[xp,xo,or_false]at hq;rcases hq with rfl|rfl
     ·exact tr A5.out (by decide)
     ·exact tr A6.out (by decide)) (by simp) (by simp) (by simp)
  ·exact(thn3 (thn3 (thn3 (thn3 B5.out (bel1 _ _)) (bel1 _ _)) (bel1 _ _) |>.trans (C7.out.bel (by simp;omega) (fun k hk q=>by omega))) (bel1 _ _)).trans (C9.bel (by simp;omega) (fun k hk q=>by omega))
 ·have tr:∀ {b:Nat} {t:TypeId} {cs:List Value},RowIs w5 b t cs->t≠26->RowIs w9 b t cs:=fun {b t cs} h ht=>by
   have l:=h.lt;exact C9.row (RowIs.keep (C7.out.row (RowIs.keep (RowIs.keep (RowIs.keep h (bel1 _ _)) (bel1 _ _)) (bel1 _ _)) (by omega)) (bel1 _ _)) (fun q=>h.ne Z5.out ht q)
  have l7:w5.heap.size+3<=w7.heap.size:=by have:=C7.out.size;simp at this;omega
  have o0:=R9.cell (j:=0) rfl;have o1:=R9.cell (j:=1) rfl;have o2:=R9.cell (j:=2) rfl;refine bodyPost_ret (v:=.tuple #[.agg #[.slice (some ⟨w5.heap.size+2,0,none⟩) 2 2,.slice (some ⟨w.heap.size+1,0,none⟩) 1 1,.slice (some ⟨w5.heap.size,0,none⟩) 2 2],.slice (some ⟨w7.heap.size,0,none⟩) 2 2]) (by simp[results,Tryz.results19,go_sem,o0,o1,o2]) rfl ?_;have sS:=C9.row (RowIs.keep (C7.out.row (show RowIs _ (w5.heap.size+2) 9 _ from nw3' w5 _ _ _) (by omega)) (bel1 _ _)) (by omega);have sV:=C9.row (RowIs.keep (C7.out.row (RowIs.keep (RowIs.keep (show RowIs _ w5.heap.size 73 _ from zbt w5 _) (bel1 _ _)) (bel1 _ _)) (by omega)) (bel1 _ _)) (by omega);have sM:=C9.row (show RowIs _ w7.heap.size 62 _ from zbt w7 _) (by omega);refine⟨_,2,2,_,1,1,_,2,2,_,2,rfl,zew (f:=tlF 1 _ _ _) (L:=[(svW (1+(na:Int)),g1,2),(svR (1+(nb:Int)),g2,2)]) sS (tr T5.out (by decide)) sV (fun q hq=>?_) rfl rfl (zcs _ _ _ _).1 (zcs _ _ _ _).2 (by simp) 2 1 2,zez sM,?_⟩
  ·simp only[xp,xo,or_false]at hq;rcases hq with rfl|rfl
   ·exact zds (L:=[(a1,⟨0,0,-1⟩),(a2,⟨0,1,-1⟩)]) (tr A1.out (by decide)) (fun q hq=>by
     simp only[xp,xo,or_false]at hq;rcases hq with rfl|rfl
     ·exact tr A2.out (by decide)
     ·exact tr A3.out (by decide)) (by simp) (by simp) (by simp)
   ·exact zds (L:=[(a3,⟨0,-1,0⟩),(a4,⟨0,-1,1⟩)]) (tr A4.out (by decide)) (fun q hq=>by
     simp only[xp,xo,or_false]at hq;rcases hq with rfl|rfl
     ·exact tr A5.out (by decide)
     ·exact tr A6.out (by decide)) (by simp) (by simp) (by simp)
  ·exact(thn3 (thn3 (thn3 (thn3 B5.out (bel1 _ _)) (bel1 _ _)) (bel1 _ _) |>.trans (C7.out.bel (by simp;omega) (fun k hk q=>by omega))) (bel1 _ _)).trans (C9.bel (by simp;omega) (fun k hk q=>by omega))
 ·have tr:∀ {b:Nat} {t:TypeId} {cs:List Value},RowIs w5 b t cs->t≠26->t≠104->RowIs w9 b t cs:=fun {b t cs} h ht ht2=>by
   have l:=h.lt;exact C9.row (RowIs.keep (C8.out.row (C7.out.row (RowIs.keep (RowIs.keep (RowIs.keep h (bel1 _ _)) (bel1 _ _)) (bel1 _ _)) (by omega)) (fun q=>h.ne T5.out ht2 q)) (bel1 _ _)) (fun q=>h.ne Z5.out ht q)
  have l7:w5.heap.size+3<=w8.heap.size:=by have h1:=C7.out.size;have h2:=C8.out.size;simp at h1;omega
  have o0:=R9.cell (j:=0) rfl;have o1:=R9.cell (j:=1) rfl;have o2:=R9.cell (j:=2) rfl;refine bodyPost_ret (v:=.tuple #[.agg #[.slice (some ⟨w5.heap.size+2,0,none⟩) 2 2,.slice (some ⟨w.heap.size+1,0,none⟩) 1 1,.slice (some ⟨w5.heap.size,0,none⟩) 2 2],.slice (some ⟨w8.heap.size,0,none⟩) 2 2]) (by simp[results,Tryz.results19,go_sem,o0,o1,o2]) rfl ?_;have sS:=C9.row (RowIs.keep (C8.out.row (C7.out.row (show RowIs _ (w5.heap.size+2) 9 _ from nw3' w5 _ _ _) (by omega)) (by omega)) (bel1 _ _)) (by omega);have sV:=C9.row (RowIs.keep (C8.out.row (C7.out.row (RowIs.keep (RowIs.keep (show RowIs _ w5.heap.size 73 _ from zbt w5 _) (bel1 _ _)) (bel1 _ _)) (by omega)) (by omega)) (bel1 _ _)) (by omega);have sM:=C9.row (show RowIs _ w8.heap.size 62 _ from zbt w8 _) (by omega);refine⟨_,2,2,_,1,1,_,2,2,_,2,rfl,zew (f:=tlF 2 _ _ _) (L:=[(svW (1+(na:Int)),g1,2),(svR (1+(nb:Int)),g2,2)]) sS (C9.row (RowIs.keep R8.out (bel1 _ _)) (by omega)) sV (fun q hq=>?_) rfl rfl (zcs _ _ _ _).1 (zcs _ _ _ _).2 (by simp) 2 1 2,zez sM,?_⟩
  ·simp only[xp,xo,or_false]at hq;rcases hq with rfl|rfl
   ·exact zds (L:=[(a1,⟨0,0,-1⟩),(a2,⟨0,1,-1⟩)]) (tr A1.out (by decide) (by decide)) (fun q hq=>by
     simp only[xp,xo,or_false]at hq;rcases hq with rfl|rfl
     ·exact tr A2.out (by decide) (by decide)
     ·exact tr A3.out (by decide) (by decide)) (by simp) (by simp) (by simp)
   ·exact zds (L:=[(a3,⟨0,-1,0⟩),(a4,⟨0,-1,1⟩)]) (tr A4.out (by decide) (by decide)) (fun q hq=>by
     simp only[xp,xo,or_false]at hq;rcases hq with rfl|rfl
     ·exact tr A5.out (by decide) (by decide)
     ·exact tr A6.out (by decide) (by decide)) (by simp) (by simp) (by simp)
  ·exact(thn3 (thn3 (thn3 (thn3 B5.out (bel1 _ _)) (bel1 _ _)) (bel1 _ _) |>.trans (C7.out.bel (by simp;omega) (fun k hk q=>by omega)) |>.trans (C8.out.bel (by have:=C7.out.size;simp at this;omega) (fun k hk q=>by omega))) (bel1 _ _)).trans (C9.bel (by simp;omega) (fun k hk q=>by omega))
 ·have ct:=C7.out.size;simp at ct;have V7:=zaa (C7.out.row (RowIs.keep (RowIs.keep (show RowIs _ w5.heap.size 73 [.int .i64 (1+(na:Int)),.int .i64 0,.int .i64 1,.slice (some ⟨g1,0,none⟩) 2 2,.int .i64 (1+(nb:Int)),.int .i64 0,.int .i64 1,.slice (some ⟨g2,0,none⟩) 2 2]from zbt w5 _) (bel1 _ _)) (bel1 _ _)) (by omega));have lg2:=A4.out.lt;have G7:=zaa (C7.out.row (RowIs.keep (RowIs.keep (RowIs.keep A4.out (bel1 _ _)) (bel1 _ _)) (bel1 _ _)) (by omega));have v7:=V7.out.cell (j:=7) rfl;have v7':w7.drew.cell? ⟨w5.heap.size,7,none⟩=some (.slice (some ⟨g2,0,none⟩) 2 2):=v7;have l7:=R7.out.lt;clear k0 k1;refine wp_region_held_drew (S:=fun w'=>w'.cell? ⟨w5.heap.size+1,2,none⟩=some (.slice (some ⟨w5.heap.size,0,none⟩) 2 2)) (by kernel_rfl) k2 (fun hHeld=>?_);refine wpAnyH_take (i:=0) (v:=?_) rfl (by kernel_rfl) (by kernel_rfl) (by kernel_rfl) (fun _ _ _ h=>h) (qf ⟨by rfl,?_⟩) (by assumption) ?_;rotate_left
  ·intro w9 hSw
   (try dsimp only at hSw)
   go_simp
   all_goals with_reducible rfl
  (try simp only[xu,xe,xj,xm,xh,xf,xg])
  refine wpAnyH_take (i:=1) (v:=?_) rfl (by kernel_rfl) (by kernel_rfl) (by kernel_rfl) (fun _ _ _ h=>h) (qf ⟨by rfl,?_⟩) (by assumption) ?_;rotate_left
  ·intro w9 hSw
   (try dsimp only at hSw)
   go_simp
   all_goals with_reducible rfl
  (try simp only[xu,xe,xj,xm,xh,xf,xg])
  refine wpAnyH_take (i:=2) (v:=?_) rfl (by kernel_rfl) (by kernel_rfl) (by kernel_rfl) (fun _ _ _ h=>h) (qf ⟨by rfl,?_⟩) (by assumption) ?_;rotate_left
  ·intro w9 hSw
   (try dsimp only at hSw)
   go_simp
   all_goals with_reducible rfl
  (try simp only[xu,xe,xj,xm,xh,xf,xg])
  refine wpAnyH_take (i:=3) (v:=?_) rfl (by kernel_rfl) (by kernel_rfl) (by kernel_rfl) (fun _ _ _ h=>h) (qf ⟨by rfl,?_⟩) (by assumption) ?_;rotate_left
  ·intro w9 hSw
   (try dsimp only at hSw)
   go_simp
   all_goals with_reducible rfl
  (try simp only[xu,xe,xj,xm,xh,xf,xg])
  refine wpAnyH_take (i:=4) (v:=?_) rfl (by kernel_rfl) (by kernel_rfl) (by kernel_rfl) (fun _ _ _ h=>h) (qf ⟨by rfl,?_⟩) (by assumption) ?_;rotate_left
  ·intro w9 hSw
   (try dsimp only at hSw)
   go_simp
   all_goals with_reducible rfl
  (try simp only[xu,xe,xj,xm,xh,xf,xg])
  refine wpAnyH_take (i:=5) (v:=?_) rfl (by kernel_rfl) (by kernel_rfl) (by kernel_rfl) (fun _ _ _ h=>h) (qf ⟨by rfl,?_⟩) (by assumption) ?_;rotate_left
  ·intro w9 hSw
   (try dsimp only at hSw)
   go_simp
   all_goals with_reducible rfl
  (try simp only[xu,xe,xj,xm,xh,xf,xg])
  refine wpAnyH_ready (rs:=[6,7]) (by kernel_rfl) (by simp) ?_;refine xq rfl (fun K hK=>?_) (xq rfl (fun K hK=>?_) xy)
  ·skip
   go_simp
   refine hK.out _ _ k2 (fun hHeld=>?_);clear hK K
   (try simp only[xu,xe,xj,xm,xh,xf,xg])
   refine wpAnyH_ready (rs:=[7]) (by kernel_rfl) (by simp) ?_;refine xq rfl (fun K hK=>?_) xy
   go_simp
   go_at_call 45
   refine(rD _).mono ?_;rintro e w8 ⟨q1,rfl,hq1,hb8⟩
   (try go_wp2_with fail)
   have t2:=zab hb8 (show w7.drew.cell? _=_ from k2);have t7:=zab hb8 v7';have V8:=zaa ((show RowIs w7.drew w5.heap.size 73 _ from V7.out).keep hb8);have R8:=zaa ((show RowIs w7.drew (w5.heap.size+1) 26 _ from R7.out).keep hb8);have G8:=zaa ((show RowIs w7.drew g2 108 _ from G7.out).keep hb8);have Q1:=zaa hq1;have l8:=R8.out.lt;have l85:=V8.out.lt;clear hq1;refine hK.out _ _ t2 (fun hHeld=>?_);clear hK K
   (try simp only[xu,xe,xj,xm,xh,xf,xg])
   refine wpAnyH_ready (rs:=[8]) (by kernel_rfl) (by simp) ?_;refine xq rfl (fun K hK=>?_) xy
   go_simp
   refine hK.out _ _ (zah _ t2) (fun hHeld=>?_);clear hK K
   (try simp only[xu,xe,xj,xm,xh,xf,xg])
   refine wpAnyH_ready (rs:=[9]) (by kernel_rfl) (by simp) ?_;refine xq rfl (fun K hK=>?_) xy;refine step_append_lies _ (by rfl) _ _ _ (by rfl) 0 108 iR _ 1 24 Tryz.underlying71 hiR zR0 zR1 zR2 rfl (by omega) (.slice (some ⟨g2,0,none⟩) 2 2) 2 [.slice (some ⟨a3,0,none⟩) 1 1,.slice (some ⟨a4,0,none⟩) 1 1] (by rfl) (zlc (RowIs.keep G8.out (bel1 _ _))) ⟨w8.heap.size,0,none⟩ 1 1 [.slice (some ⟨q1,0,none⟩) 1 1] (by rfl) (by rfl) (qe (heap_alloc_new w8 _)) (by simp[qh]) (by omega) (by unfold maxLen;omega) (by omega) (by omega) (w8.heap.size+1) (by simp) ?_;intro g3 cap3 w10 hown3 hgr3 hat3 hlt3;have V10:=zaa ((V8.out.keep (bel1 w8 (.cells #[.slice (some ⟨q1,0,none⟩) 1 1] 108))).grown hgr3 (fun e=>by simp[xv]at e;omega));have R10:=zaa ((R8.out.keep (bel1 w8 (.cells #[.slice (some ⟨q1,0,none⟩) 1 1] 108))).grown hgr3 (fun e=>by simp[xv]at e;omega));have m7:=V10.out.cell (j:=7) rfl;have f7:=V10.out.frozen 7;have r2:=R10.out.cell (j:=2) rfl;have HO3:=zaa hown3;have HG3:=zaa hgr3;clear hown3 hgr3;refine hK.out _ _ r2 (fun hHeld=>?_);clear hK K
   (try simp only[xu,xe,xj,xm,xh,xf,xg])
   refine wpAnyH_take (i:=10) (v:=?_) rfl (by kernel_rfl) (by kernel_rfl) (by kernel_rfl) (fun _ _ _ h=>h) (qf ⟨by rfl,?_⟩) (by assumption) ?_;rotate_left
   ·intro w9 hSw
    (try dsimp only at hSw)
    go_simp
    all_goals with_reducible rfl
   (try simp only[xu,xe,xj,xm,xh,xf,xg])
   refine wpAnyH_take (i:=11) (v:=?_) rfl (by kernel_rfl) (by kernel_rfl) (by kernel_rfl) (fun _ _ _ h=>h) (qf ⟨by rfl,?_⟩) (by assumption) ?_;rotate_left
   ·intro w9 hSw
    (try dsimp only at hSw)
    go_simp
    all_goals with_reducible rfl
   (try simp only[xu,xe,xj,xm,xh,xf,xg])
   refine wpAnyH_ready (rs:=[12]) (by kernel_rfl) (by simp) ?_;refine xq rfl (fun K hK=>?_) xy
   go_simp
   refine hK.out _ _ ((R10.out.setOther (p:=⟨w5.heap.size,7,none⟩) (by show w5.heap.size≠w5.heap.size+1;omega) _).cell (j:=2) rfl) (fun hHeld=>?_);clear hK K;refine wpAnyH_done (by kernel_rfl) ?_ _;have R11:=zaa (R10.out.setOther (p:=⟨w5.heap.size,7,none⟩) (by show w5.heap.size≠w5.heap.size+1;omega) (.slice (some ⟨g3,0,none⟩) 3 cap3));have V11:=zaa (V10.out.set 7 (.slice (some ⟨g3,0,none⟩) 3 cap3));have j0:=R11.out.cell (j:=0) rfl;have j1:=R11.out.cell (j:=1) rfl;have j2:=R11.out.cell (j:=2) rfl;have CH:=zaa (show Chg (fun b=>b=w5.heap.size\/b=g2) w7 (w10.setCell ⟨w5.heap.size,7,none⟩ (.slice (some ⟨g3,0,none⟩) 3 cap3)) from(((Chg.of (S:=fun b=>b=w5.heap.size\/b=g2) (w:=w7) (w':=w8) ⟨hb8.os,hb8.tape,hb8.output,hb8.size,hb8.block⟩).alloc _).grown HG3.out (fun k hk=>by simp[xv]at hk;exact .inl (.inr hk.symm))).set (p:=⟨w5.heap.size,7,none⟩) (.inl (.inl rfl)) _);have O11:=zaa (((Chg.refl (·= w5.heap.size) w10).set (p:=⟨w5.heap.size,7,none⟩) (.inl rfl) (.slice (some ⟨g3,0,none⟩) 3 cap3)).own HO3.out (zbw HO3.out V10.out (by decide)));have Q11:=zaa (((Q1.out.keep (bel1 w8 (.cells #[.slice (some ⟨q1,0,none⟩) 1 1] 108))).grown HG3.out (fun e=>by simp[xv]at e;exact Q1.out.ne G8.out (by decide) e.symm)).setOther (p:=⟨w5.heap.size,7,none⟩) (fun q=>Q1.out.ne V8.out (by decide) q.symm) (.slice (some ⟨g3,0,none⟩) 3 cap3));clear hHeld m7 f7 r2 V8 R8 G8 Q1 V10 R10 HO3 HG3 t2 t7 v7 v7' k2;generalize w10.setCell ⟨w5.heap.size,7,none⟩ (.slice (some ⟨g3,0,none⟩) 3 cap3)=w11 at *;have hcs:=CH.out.size;have ng:g2≠w.heap.size:=A4.out.ne Z5.out (by decide);have ZW:=zaa (CH.out.row (C7.out.row (RowIs.keep (RowIs.keep (RowIs.keep Z5.out (bel1 _ _)) (bel1 _ _)) (bel1 _ _)) (by omega)) (by omega))
   go_wp2_with (refine zdd rfl 26 _ _ rfl w.heap.size [.slice (some ⟨w5.heap.size+2,0,none⟩) 3 3,.slice (some ⟨w.heap.size+1,0,none⟩) 1 1,.slice (some ⟨w5.heap.size,0,none⟩) 2 2] nilF _ rfl rfl (RowIs.keep ZW.out (bel1 _ _)) rfl Tryz.infoFlt3 one3 ?_;intro w12 R12 C12;(try simp only[xu,xe,xj,xm,xh,xf,xg]))
   have tr:∀ {b:Nat} {t:TypeId} {cs:List Value},RowIs w5 b t cs->t≠26->b≠g2->RowIs w12 b t cs:=fun {b t cs} h ht hg=>by
    have l:=h.lt;exact C12.row (RowIs.keep (CH.out.row (C7.out.row (RowIs.keep (RowIs.keep (RowIs.keep h (bel1 _ _)) (bel1 _ _)) (bel1 _ _)) (by omega)) (by omega)) (bel1 _ _)) (fun q=>h.ne Z5.out ht q)
   have o0:=R12.cell (j:=0) rfl;have o1:=R12.cell (j:=1) rfl;have o2:=R12.cell (j:=2) rfl;refine bodyPost_ret (v:=.tuple #[.agg #[.slice (some ⟨w5.heap.size+2,0,none⟩) 3 3,.slice (some ⟨w.heap.size+1,0,none⟩) 1 1,.slice (some ⟨w5.heap.size,0,none⟩) 2 2],.slice (some ⟨w11.heap.size,0,none⟩) 3 3]) (by simp[results,Tryz.results19,go_sem,o0,o1,o2]) rfl ?_;have sS:=C12.row (RowIs.keep (CH.out.row (C7.out.row (show RowIs _ (w5.heap.size+2) 9 _ from nw3' w5 _ _ _) (by omega)) (by omega)) (bel1 _ _)) (by omega);have sV:=C12.row (RowIs.keep V11.out (bel1 _ _)) (by omega);have sM:=C12.row (show RowIs _ w11.heap.size 62 _ from zbt w11 _) (by omega);have sQ:=C12.row (RowIs.keep Q11.out (bel1 _ _)) (fun q=>Q11.out.ne ZW.out (by decide) q);have sO:=C12.own (zas O11.out (bel1 w11 _)) (fun g hg q=>zbw O11.out ZW.out (by decide) g hg q);have tn:∀ {b:Nat} {cs:List Value},RowIs w5 b 165 cs->b≠g2:=fun h=>h.ne A4.out (by decide);have t5:w.heap.size+1≠g2:=T5.out.ne A4.out (by decide);have g12:g1≠g2:=fun q=>by
    have h1:=A1.out;rw[q]at h1;have h2:=A4.out;unfold RowIs at h1 h2;rw[h1]at h2;simp at h2;have h3:=A2.out;have h4:=A5.out;rw[h2.1]at h3;unfold RowIs at h3 h4;rw[h3]at h4;simp at h4
   refine⟨_,3,3,_,1,1,_,2,2,_,3,rfl,zew (f:=tlF 3 _ _ _) (L:=[(svW (1+(na:Int)),g1,2),(svR3 (1+(nb:Int)),g3,cap3)]) sS (tr T5.out (by decide) t5) sV (fun q hq=>?_) rfl rfl (zcs _ _ _ _).1 (zcs _ _ _ _).2 (by simp) 3 1 2,zez sM,?_⟩
   ·simp only[xp,xo,or_false]at hq;rcases hq with rfl|rfl
    ·exact zds (L:=[(a1,⟨0,0,-1⟩),(a2,⟨0,1,-1⟩)]) (tr A1.out (by decide) g12) (fun q hq=>by
      simp only[xp,xo,or_false]at hq;rcases hq with rfl|rfl
      ·exact tr A2.out (by decide) (tn A2.out)
      ·exact tr A3.out (by decide) (tn A3.out)) (by simp) (by simp) (by simp)
    ·exact zla (L:=[(a3,⟨0,-1,0⟩),(a4,⟨0,-1,1⟩),(q1,⟨0,-1,2⟩)]) sO (fun q hq=>by
      simp only[xp,xo,or_false]at hq;rcases hq with rfl|rfl|rfl
      ·exact tr A5.out (by decide) (tn A5.out)
      ·exact tr A6.out (by decide) (tn A6.out)
      ·exact sQ) (by simp)
   ·have u1:=thn3 (thn3 (thn3 B5.out (bel1 _ _)) (bel1 _ _)) (bel1 _ _) |>.trans (C7.out.bel (by simp;omega) (fun k hk q=>by omega));have lg:w.heap.size<=g2:=lg2w.out;have u2:=u1.trans (CH.out.bel (by omega) (fun k hk q=>by omega));exact(thn3 u2 (bel1 _ _)).trans (C12.bel (by simp;omega) (fun k hk q=>by omega))
  ·skip
   go_simp
   go_at_call 45
   refine(rD _).mono ?_;rintro e w8 ⟨q1,rfl,hq1,hb8⟩
   (try go_wp2_with fail)
   have t2:=zab hb8 (show w7.drew.cell? _=_ from k2);have t7:=zab hb8 v7';have V8:=zaa ((show RowIs w7.drew w5.heap.size 73 _ from V7.out).keep hb8);have R8:=zaa ((show RowIs w7.drew (w5.heap.size+1) 26 _ from R7.out).keep hb8);have G8:=zaa ((show RowIs w7.drew g2 108 _ from G7.out).keep hb8);have Q1:=zaa hq1;have l8:=R8.out.lt;have l85:=V8.out.lt;clear hq1;refine hK.out _ _ t2 (fun hHeld=>?_);clear hK K
   (try simp only[xu,xe,xj,xm,xh,xf,xg])
   refine wpAnyH_ready (rs:=[6,8]) (by kernel_rfl) (by simp) ?_;refine xq rfl (fun K hK=>?_) (xq rfl (fun K hK=>?_) xy)
   ·skip
    go_simp
    refine hK.out _ _ t2 (fun hHeld=>?_);clear hK K
    (try simp only[xu,xe,xj,xm,xh,xf,xg])
    refine wpAnyH_ready (rs:=[8]) (by kernel_rfl) (by simp) ?_;refine xq rfl (fun K hK=>?_) xy
    go_simp
    refine hK.out _ _ (zah _ t2) (fun hHeld=>?_);clear hK K
    (try simp only[xu,xe,xj,xm,xh,xf,xg])
    refine wpAnyH_ready (rs:=[9]) (by kernel_rfl) (by simp) ?_;refine xq rfl (fun K hK=>?_) xy;refine step_append_lies _ (by rfl) _ _ _ (by rfl) 0 108 iR _ 1 24 Tryz.underlying71 hiR zR0 zR1 zR2 rfl (by omega) (.slice (some ⟨g2,0,none⟩) 2 2) 2 [.slice (some ⟨a3,0,none⟩) 1 1,.slice (some ⟨a4,0,none⟩) 1 1] (by rfl) (zlc (RowIs.keep G8.out (bel1 _ _))) ⟨w8.heap.size,0,none⟩ 1 1 [.slice (some ⟨q1,0,none⟩) 1 1] (by rfl) (by rfl) (qe (heap_alloc_new w8 _)) (by simp[qh]) (by omega) (by unfold maxLen;omega) (by omega) (by omega) (w8.heap.size+1) (by simp) ?_;intro g3 cap3 w10 hown3 hgr3 hat3 hlt3;have V10:=zaa ((V8.out.keep (bel1 w8 (.cells #[.slice (some ⟨q1,0,none⟩) 1 1] 108))).grown hgr3 (fun e=>by simp[xv]at e;omega));have R10:=zaa ((R8.out.keep (bel1 w8 (.cells #[.slice (some ⟨q1,0,none⟩) 1 1] 108))).grown hgr3 (fun e=>by simp[xv]at e;omega));have m7:=V10.out.cell (j:=7) rfl;have f7:=V10.out.frozen 7;have r2:=R10.out.cell (j:=2) rfl;have HO3:=zaa hown3;have HG3:=zaa hgr3;clear hown3 hgr3;refine hK.out _ _ r2 (fun hHeld=>?_);clear hK K
    (try simp only[xu,xe,xj,xm,xh,xf,xg])
    refine wpAnyH_take (i:=10) (v:=?_) rfl (by kernel_rfl) (by kernel_rfl) (by kernel_rfl) (fun _ _ _ h=>h) (qf ⟨by rfl,?_⟩) (by assumption) ?_;rotate_left
    ·intro w9 hSw
     (try dsimp only at hSw)
     go_simp
     all_goals with_reducible rfl
    (try simp only[xu,xe,xj,xm,xh,xf,xg])
    refine wpAnyH_take (i:=11) (v:=?_) rfl (by kernel_rfl) (by kernel_rfl) (by kernel_rfl) (fun _ _ _ h=>h) (qf ⟨by rfl,?_⟩) (by assumption) ?_;rotate_left
    ·intro w9 hSw
     (try dsimp only at hSw)
     go_simp
     all_goals with_reducible rfl
    (try simp only[xu,xe,xj,xm,xh,xf,xg])
    refine wpAnyH_ready (rs:=[12]) (by kernel_rfl) (by simp) ?_;refine xq rfl (fun K hK=>?_) xy
    go_simp
    refine hK.out _ _ ((R10.out.setOther (p:=⟨w5.heap.size,7,none⟩) (by show w5.heap.size≠w5.heap.size+1;omega) _).cell (j:=2) rfl) (fun hHeld=>?_);clear hK K;refine wpAnyH_done (by kernel_rfl) ?_ _;have R11:=zaa (R10.out.setOther (p:=⟨w5.heap.size,7,none⟩) (by show w5.heap.size≠w5.heap.size+1;omega) (.slice (some ⟨g3,0,none⟩) 3 cap3));have V11:=zaa (V10.out.set 7 (.slice (some ⟨g3,0,none⟩) 3 cap3));have j0:=R11.out.cell (j:=0) rfl;have j1:=R11.out.cell (j:=1) rfl;have j2:=R11.out.cell (j:=2) rfl;have CH:=zaa (show Chg (fun b=>b=w5.heap.size\/b=g2) w7 (w10.setCell ⟨w5.heap.size,7,none⟩ (.slice (some ⟨g3,0,none⟩) 3 cap3)) from(((Chg.of (S:=fun b=>b=w5.heap.size\/b=g2) (w:=w7) (w':=w8) ⟨hb8.os,hb8.tape,hb8.output,hb8.size,hb8.block⟩).alloc _).grown HG3.out (fun k hk=>by simp[xv]at hk;exact .inl (.inr hk.symm))).set (p:=⟨w5.heap.size,7,none⟩) (.inl (.inl rfl)) _);have O11:=zaa (((Chg.refl (·= w5.heap.size) w10).set (p:=⟨w5.heap.size,7,none⟩) (.inl rfl) (.slice (some ⟨g3,0,none⟩) 3 cap3)).own HO3.out (zbw HO3.out V10.out (by decide)));have Q11:=zaa (((Q1.out.keep (bel1 w8 (.cells #[.slice (some ⟨q1,0,none⟩) 1 1] 108))).grown HG3.out (fun e=>by simp[xv]at e;exact Q1.out.ne G8.out (by decide) e.symm)).setOther (p:=⟨w5.heap.size,7,none⟩) (fun q=>Q1.out.ne V8.out (by decide) q.symm) (.slice (some ⟨g3,0,none⟩) 3 cap3));clear hHeld m7 f7 r2 V8 R8 G8 Q1 V10 R10 HO3 HG3 t2 t7 v7 v7' k2;generalize w10.setCell ⟨w5.heap.size,7,none⟩ (.slice (some ⟨g3,0,none⟩) 3 cap3)=w11 at *;have hcs:=CH.out.size;have ng:g2≠w.heap.size:=A4.out.ne Z5.out (by decide);have ZW:=zaa (CH.out.row (C7.out.row (RowIs.keep (RowIs.keep (RowIs.keep Z5.out (bel1 _ _)) (bel1 _ _)) (bel1 _ _)) (by omega)) (by omega))
    go_wp2_with (refine zdd rfl 26 _ _ rfl w.heap.size [.slice (some ⟨w5.heap.size+2,0,none⟩) 3 3,.slice (some ⟨w.heap.size+1,0,none⟩) 1 1,.slice (some ⟨w5.heap.size,0,none⟩) 2 2] nilF _ rfl rfl (RowIs.keep ZW.out (bel1 _ _)) rfl Tryz.infoFlt3 one3 ?_;intro w12 R12 C12;(try simp only[xu,xe,xj,xm,xh,xf,xg]))
    have tr:∀ {b:Nat} {t:TypeId} {cs:List Value},RowIs w5 b t cs->t≠26->b≠g2->RowIs w12 b t cs:=fun {b t cs} h ht hg=>by
     have l:=h.lt;exact C12.row (RowIs.keep (CH.out.row (C7.out.row (RowIs.keep (RowIs.keep (RowIs.keep h (bel1 _ _)) (bel1 _ _)) (bel1 _ _)) (by omega)) (by omega)) (bel1 _ _)) (fun q=>h.ne Z5.out ht q)
    have o0:=R12.cell (j:=0) rfl;have o1:=R12.cell (j:=1) rfl;have o2:=R12.cell (j:=2) rfl;refine bodyPost_ret (v:=.tuple #[.agg #[.slice (some ⟨w5.heap.size+2,0,none⟩) 3 3,.slice (some ⟨w.heap.size+1,0,none⟩) 1 1,.slice (some ⟨w5.heap.size,0,none⟩) 2 2],.slice (some ⟨w11.heap.size,0,none⟩) 3 3]) (by simp[results,Tryz.results19,go_sem,o0,o1,o2]) rfl ?_;have sS:=C12.row (RowIs.keep (CH.out.row (C7.out.row (show RowIs _ (w5.heap.size+2) 9 _ from nw3' w5 _ _ _) (by omega)) (by omega)) (bel1 _ _)) (by omega);have sV:=C12.row (RowIs.keep V11.out (bel1 _ _)) (by omega);have sM:=C12.row (show RowIs _ w11.heap.size 62 _ from zbt w11 _) (by omega);have sQ:=C12.row (RowIs.keep Q11.out (bel1 _ _)) (fun q=>Q11.out.ne ZW.out (by decide) q);have sO:=C12.own (zas O11.out (bel1 w11 _)) (fun g hg q=>zbw O11.out ZW.out (by decide) g hg q);have tn:∀ {b:Nat} {cs:List Value},RowIs w5 b 165 cs->b≠g2:=fun h=>h.ne A4.out (by decide);have t5:w.heap.size+1≠g2:=T5.out.ne A4.out (by decide);have g12:g1≠g2:=fun q=>by
     have h1:=A1.out;rw[q]at h1;have h2:=A4.out;unfold RowIs at h1 h2;rw[h1]at h2;simp at h2;have h3:=A2.out;have h4:=A5.out;rw[h2.1]at h3;unfold RowIs at h3 h4;rw[h3]at h4;simp at h4
    refine⟨_,3,3,_,1,1,_,2,2,_,3,rfl,zew (f:=tlF 3 _ _ _) (L:=[(svW (1+(na:Int)),g1,2),(svR3 (1+(nb:Int)),g3,cap3)]) sS (tr T5.out (by decide) t5) sV (fun q hq=>?_) rfl rfl (zcs _ _ _ _).1 (zcs _ _ _ _).2 (by simp) 3 1 2,zez sM,?_⟩
    ·simp only[xp,xo,or_false]at hq;rcases hq with rfl|rfl
     ·exact zds (L:=[(a1,⟨0,0,-1⟩),(a2,⟨0,1,-1⟩)]) (tr A1.out (by decide) g12) (fun q hq=>by
       simp only[xp,xo,or_false]at hq;rcases hq with rfl|rfl
       ·exact tr A2.out (by decide) (tn A2.out)
       ·exact tr A3.out (by decide) (tn A3.out)) (by simp) (by simp) (by simp)
     ·exact zla (L:=[(a3,⟨0,-1,0⟩),(a4,⟨0,-1,1⟩),(q1,⟨0,-1,2⟩)]) sO (fun q hq=>by
       simp only[xp,xo,or_false]at hq;rcases hq with rfl|rfl|rfl
       ·exact tr A5.out (by decide) (tn A5.out)
       ·exact tr A6.out (by decide) (tn A6.out)
       ·exact sQ) (by simp)
    ·have u1:=thn3 (thn3 (thn3 B5.out (bel1 _ _)) (bel1 _ _)) (bel1 _ _) |>.trans (C7.out.bel (by simp;omega) (fun k hk q=>by omega));have lg:w.heap.size<=g2:=lg2w.out;have u2:=u1.trans (CH.out.bel (by omega) (fun k hk q=>by omega));exact(thn3 u2 (bel1 _ _)).trans (C12.bel (by simp;omega) (fun k hk q=>by omega))
   ·skip
    go_simp
    refine hK.out _ _ (zah _ t2) (fun hHeld=>?_);clear hK K
    (try simp only[xu,xe,xj,xm,xh,xf,xg])
    refine wpAnyH_ready (rs:=[6]) (by kernel_rfl) (by simp) ?_;refine xq rfl (fun K hK=>?_) xy
    go_simp
    refine hK.out _ _ (zah _ t2) (fun hHeld=>?_);clear hK K
    (try simp only[xu,xe,xj,xm,xh,xf,xg])
    refine wpAnyH_ready (rs:=[9]) (by kernel_rfl) (by simp) ?_;refine xq rfl (fun K hK=>?_) xy;refine step_append_lies _ (by rfl) _ _ _ (by rfl) 0 108 iR _ 1 24 Tryz.underlying71 hiR zR0 zR1 zR2 rfl (by omega) (.slice (some ⟨g2,0,none⟩) 2 2) 2 [.slice (some ⟨a3,0,none⟩) 1 1,.slice (some ⟨a4,0,none⟩) 1 1] (by rfl) (zlc (RowIs.keep G8.out (bel1 _ _))) ⟨w8.heap.size,0,none⟩ 1 1 [.slice (some ⟨q1,0,none⟩) 1 1] (by rfl) (by rfl) (qe (heap_alloc_new w8 _)) (by simp[qh]) (by omega) (by unfold maxLen;omega) (by omega) (by omega) (w8.heap.size+1) (by simp) ?_;intro g3 cap3 w10 hown3 hgr3 hat3 hlt3;have V10:=zaa ((V8.out.keep (bel1 w8 (.cells #[.slice (some ⟨q1,0,none⟩) 1 1] 108))).grown hgr3 (fun e=>by simp[xv]at e;omega));have R10:=zaa ((R8.out.keep (bel1 w8 (.cells #[.slice (some ⟨q1,0,none⟩) 1 1] 108))).grown hgr3 (fun e=>by simp[xv]at e;omega));have m7:=V10.out.cell (j:=7) rfl;have f7:=V10.out.frozen 7;have r2:=R10.out.cell (j:=2) rfl;have HO3:=zaa hown3;have HG3:=zaa hgr3;clear hown3 hgr3;refine hK.out _ _ r2 (fun hHeld=>?_);clear hK K
    (try simp only[xu,xe,xj,xm,xh,xf,xg])
    refine wpAnyH_take (i:=10) (v:=?_) rfl (by kernel_rfl) (by kernel_rfl) (by kernel_rfl) (fun _ _ _ h=>h) (qf ⟨by rfl,?_⟩) (by assumption) ?_;rotate_left
    ·intro w9 hSw
     (try dsimp only at hSw)
     go_simp
     all_goals with_reducible rfl
    (try simp only[xu,xe,xj,xm,xh,xf,xg])
    refine wpAnyH_take (i:=11) (v:=?_) rfl (by kernel_rfl) (by kernel_rfl) (by kernel_rfl) (fun _ _ _ h=>h) (qf ⟨by rfl,?_⟩) (by assumption) ?_;rotate_left
    ·intro w9 hSw
     (try dsimp only at hSw)
     go_simp
     all_goals with_reducible rfl
    (try simp only[xu,xe,xj,xm,xh,xf,xg])
    refine wpAnyH_ready (rs:=[12]) (by kernel_rfl) (by simp) ?_;refine xq rfl (fun K hK=>?_) xy
    go_simp
    refine hK.out _ _ ((R10.out.setOther (p:=⟨w5.heap.size,7,none⟩) (by show w5.heap.size≠w5.heap.size+1;omega) _).cell (j:=2) rfl) (fun hHeld=>?_);clear hK K;refine wpAnyH_done (by kernel_rfl) ?_ _;have R11:=zaa (R10.out.setOther (p:=⟨w5.heap.size,7,none⟩) (by show w5.heap.size≠w5.heap.size+1;omega) (.slice (some ⟨g3,0,none⟩) 3 cap3));have V11:=zaa (V10.out.set 7 (.slice (some ⟨g3,0,none⟩) 3 cap3));have j0:=R11.out.cell (j:=0) rfl;have j1:=R11.out.cell (j:=1) rfl;have j2:=R11.out.cell (j:=2) rfl;have CH:=zaa (show Chg (fun b=>b=w5.heap.size\/b=g2) w7 (w10.setCell ⟨w5.heap.size,7,none⟩ (.slice (some ⟨g3,0,none⟩) 3 cap3)) from(((Chg.of (S:=fun b=>b=w5.heap.size\/b=g2) (w:=w7) (w':=w8) ⟨hb8.os,hb8.tape,hb8.output,hb8.size,hb8.block⟩).alloc _).grown HG3.out (fun k hk=>by simp[xv]at hk;exact .inl (.inr hk.symm))).set (p:=⟨w5.heap.size,7,none⟩) (.inl (.inl rfl)) _);have O11:=zaa (((Chg.refl (·= w5.heap.size) w10).set (p:=⟨w5.heap.size,7,none⟩) (.inl rfl) (.slice (some ⟨g3,0,none⟩) 3 cap3)).own HO3.out (zbw HO3.out V10.out (by decide)));have Q11:=zaa (((Q1.out.keep (bel1 w8 (.cells #[.slice (some ⟨q1,0,none⟩) 1 1] 108))).grown HG3.out (fun e=>by simp[xv]at e;exact Q1.out.ne G8.out (by decide) e.symm)).setOther (p:=⟨w5.heap.size,7,none⟩) (fun q=>Q1.out.ne V8.out (by decide) q.symm) (.slice (some ⟨g3,0,none⟩) 3 cap3));clear hHeld m7 f7 r2 V8 R8 G8 Q1 V10 R10 HO3 HG3 t2 t7 v7 v7' k2;generalize w10.setCell ⟨w5.heap.size,7,none⟩ (.slice (some ⟨g3,0,none⟩) 3 cap3)=w11 at *;have hcs:=CH.out.size;have ng:g2≠w.heap.size:=A4.out.ne Z5.out (by decide);have ZW:=zaa (CH.out.row (C7.out.row (RowIs.keep (RowIs.keep (RowIs.keep Z5.out (bel1 _ _)) (bel1 _ _)) (bel1 _ _)) (by omega)) (by omega))
    go_wp2_with (refine zdd rfl 26 _ _ rfl w.heap.size [.slice (some ⟨w5.heap.size+2,0,none⟩) 3 3,.slice (some ⟨w.heap.size+1,0,none⟩) 1 1,.slice (some ⟨w5.heap.size,0,none⟩) 2 2] nilF _ rfl rfl (RowIs.keep ZW.out (bel1 _ _)) rfl Tryz.infoFlt3 one3 ?_;intro w12 R12 C12;(try simp only[xu,xe,xj,xm,xh,xf,xg]))
    have tr:∀ {b:Nat} {t:TypeId} {cs:List Value},RowIs w5 b t cs->t≠26->b≠g2->RowIs w12 b t cs:=fun {b t cs} h ht hg=>by
     have l:=h.lt;exact C12.row (RowIs.keep (CH.out.row (C7.out.row (RowIs.keep (RowIs.keep (RowIs.keep h (bel1 _ _)) (bel1 _ _)) (bel1 _ _)) (by omega)) (by omega)) (bel1 _ _)) (fun q=>h.ne Z5.out ht q)
    have o0:=R12.cell (j:=0) rfl;have o1:=R12.cell (j:=1) rfl;have o2:=R12.cell (j:=2) rfl;refine bodyPost_ret (v:=.tuple #[.agg #[.slice (some ⟨w5.heap.size+2,0,none⟩) 3 3,.slice (some ⟨w.heap.size+1,0,none⟩) 1 1,.slice (some ⟨w5.heap.size,0,none⟩) 2 2],.slice (some ⟨w11.heap.size,0,none⟩) 3 3]) (by simp[results,Tryz.results19,go_sem,o0,o1,o2]) rfl ?_;have sS:=C12.row (RowIs.keep (CH.out.row (C7.out.row (show RowIs _ (w5.heap.size+2) 9 _ from nw3' w5 _ _ _) (by omega)) (by omega)) (bel1 _ _)) (by omega);have sV:=C12.row (RowIs.keep V11.out (bel1 _ _)) (by omega);have sM:=C12.row (show RowIs _ w11.heap.size 62 _ from zbt w11 _) (by omega);have sQ:=C12.row (RowIs.keep Q11.out (bel1 _ _)) (fun q=>Q11.out.ne ZW.out (by decide) q);have sO:=C12.own (zas O11.out (bel1 w11 _)) (fun g hg q=>zbw O11.out ZW.out (by decide) g hg q);have tn:∀ {b:Nat} {cs:List Value},RowIs w5 b 165 cs->b≠g2:=fun h=>h.ne A4.out (by decide);have t5:w.heap.size+1≠g2:=T5.out.ne A4.out (by decide);have g12:g1≠g2:=fun q=>by
     have h1:=A1.out;rw[q]at h1;have h2:=A4.out;unfold RowIs at h1 h2;rw[h1]at h2;simp at h2;have h3:=A2.out;have h4:=A5.out;rw[h2.1]at h3;unfold RowIs at h3 h4;rw[h3]at h4;simp at h4
    refine⟨_,3,3,_,1,1,_,2,2,_,3,rfl,zew (f:=tlF 3 _ _ _) (L:=[(svW (1+(na:Int)),g1,2),(svR3 (1+(nb:Int)),g3,cap3)]) sS (tr T5.out (by decide) t5) sV (fun q hq=>?_) rfl rfl (zcs _ _ _ _).1 (zcs _ _ _ _).2 (by simp) 3 1 2,zez sM,?_⟩
    ·simp only[xp,xo,or_false]at hq;rcases hq with rfl|rfl
     ·exact zds (L:=[(a1,⟨0,0,-1⟩),(a2,⟨0,1,-1⟩)]) (tr A1.out (by decide) g12) (fun q hq=>by
       simp only[xp,xo,or_false]at hq;rcases hq with rfl|rfl
       ·exact tr A2.out (by decide) (tn A2.out)
       ·exact tr A3.out (by decide) (tn A3.out)) (by simp) (by simp) (by simp)
     ·exact zla (L:=[(a3,⟨0,-1,0⟩),(a4,⟨0,-1,1⟩),(q1,⟨0,-1,2⟩)]) sO (fun q hq=>by
       simp only[xp,xo,or_false]at hq;rcases hq with rfl|rfl|rfl
       ·exact tr A5.out (by decide) (tn A5.out)
       ·exact tr A6.out (by decide) (tn A6.out)
       ·exact sQ) (by simp)
    ·have u1:=thn3 (thn3 (thn3 B5.out (bel1 _ _)) (bel1 _ _)) (bel1 _ _) |>.trans (C7.out.bel (by simp;omega) (fun k hk q=>by omega));have lg:w.heap.size<=g2:=lg2w.out;have u2:=u1.trans (CH.out.bel (by omega) (fun k hk q=>by omega));exact(thn3 u2 (bel1 _ _)).trans (C12.bel (by simp;omega) (fun k hk q=>by omega))
 ·have ct:=C7.out.size;have cb:=HB.out.size;have cz:=C11.out.size;simp at ct cz;have tr:∀ {b:Nat} {t:TypeId} {cs:List Value},RowIs w10 b t cs->b≠w5.heap.size+1->b≠w.heap.size->RowIs w12 b t cs:=fun {b t cs} h h1 h2=>by
   exact C12.row (RowIs.keep (C11.out.row (RowIs.keep (RowIs.keep h (bel1 _ _)) (bel1 _ _)) h1) (bel1 _ _)) h2
  have t7:∀ {b:Nat} {t:TypeId} {cs:List Value},RowIs w7 b t cs->b≠w5.heap.size+1->b≠w.heap.size->RowIs w12 b t cs:=fun {b t cs} h h1 h2=>tr (h.keep HB.out) h1 h2;have o0:=R12.cell (j:=0) rfl;have o1:=R12.cell (j:=1) rfl;have o2:=R12.cell (j:=2) rfl;refine bodyPost_ret (v:=.tuple #[.agg #[.slice (some ⟨w5.heap.size+2,0,none⟩) 2 2,.slice (some ⟨w.heap.size+1,0,none⟩) 1 1,.slice (some ⟨w10.heap.size+1,0,none⟩) 1 1],.slice (some ⟨w11.heap.size,0,none⟩) 2 2]) (by simp[results,Tryz.results19,go_sem,o0,o1,o2]) rfl ?_;have sS:=t7 (C7.out.row (show RowIs _ (w5.heap.size+2) 9 _ from nw3' w5 _ _ _) (by omega)) (by omega) (by omega);have sT:=t7 (C7.out.row (RowIs.keep (RowIs.keep (RowIs.keep T5.out (bel1 _ _)) (bel1 _ _)) (bel1 _ _)) (by omega)) (by omega) (by omega);have sR:=C12.row (RowIs.keep (C11.out.row (RowIs.keep (show RowIs _ w10.heap.size 108 _ from zbt w10 _) (bel1 _ _)) (by omega)) (bel1 _ _)) (by omega);have sV:=C12.row (RowIs.keep (C11.out.row (show RowIs _ (w10.heap.size+1) 73 _ from nw2 w10 _ _) (by omega)) (bel1 _ _)) (by omega);have sM:=C12.row (show RowIs _ w11.heap.size 62 _ from zbt w11 _) (by omega);have hz10:=Z11.out;have ne1:∀ {b:Nat} {cs:List Value},RowIs w10 b 165 cs->b≠w5.heap.size+1/\b≠w.heap.size:=fun {b cs} h=>⟨fun q=>h.ne R10.out (by decide) q,fun q=>h.ne (RowIs.keep (C7.out.row (RowIs.keep (RowIs.keep (RowIs.keep Z5.out (bel1 _ _)) (bel1 _ _)) (bel1 _ _)) (by omega)) HB.out) (by decide) q⟩;refine⟨_,2,2,_,1,1,_,1,1,_,2,rfl,zew (f:=tlF 4 _ _ _) (L:=[(svO (1+(na:Int)),w10.heap.size,3)]) sS sT sV (fun q hq=>?_) rfl rfl (zcs _ _ _ _).1 (zcs _ _ _ _).2 (by simp) 2 1 1,zez sM,?_⟩
  ·simp only[xp,xo,or_false]at hq;subst hq;exact zds (L:=[(q1,⟨0,0,0⟩),(q2,⟨0,0,1⟩),(q3,⟨0,1,1⟩)]) sR (fun q hq=>by
     simp only[xp,xo,or_false]at hq;rcases hq with rfl|rfl|rfl
     ·exact tr P1.out (ne1 P1.out).1 (ne1 P1.out).2
     ·exact tr P2.out (ne1 P2.out).1 (ne1 P2.out).2
     ·exact tr Q3.out (ne1 Q3.out).1 (ne1 Q3.out).2) (by simp) (by simp) (by simp)
  ·have u1:=thn3 (thn3 (thn3 B5.out (bel1 _ _)) (bel1 _ _)) (bel1 _ _) |>.trans (C7.out.bel (by simp;omega) (fun k hk q=>by omega));have u2:=thn3 (thn3 (thn3 u1 HB.out) (bel1 _ _)) (bel1 _ _) |>.trans (C11.out.bel (by simp;omega) (fun k hk q=>by omega));exact(thn3 u2 (bel1 _ _)).trans (C12.bel (by simp;omega) (fun k hk q=>by omega))
end
section
theorem zyi {w:World}{base n:Nat}{v:Value}{ms:List (Int×Int)}(h:w.ownsRow base 62 2 v n (mvC ms))(hl:ms.length=n):∃ a c,v=.slice a n c/\MvsAt w a ms:=by
 obtain⟨a,c,e,_,hc⟩:=zbb h (by omega);refine⟨a,c,e,fun i m hi=>?_⟩;have d:=zpk hi;obtain⟨b,q1,_,k1⟩:=hc _ _ d.1;obtain⟨b',q2,_,k2⟩:=hc _ _ d.2;rw[q1]at q2;cases q2;exact⟨b,0,q1,by rw[qi];exact k1,by rw[qi];exact k2⟩
theorem zy7 (c keep n m:Int)(j:Nat)(k a b:Int)(f:zac)(hf:f=tlF j k a b)(hml:(tlM j).length<=3)(hS:Sfe f (tlM j))(hP:PlanIs f 512 (tlM j) 0)(w:World)
  (c1:∀ W,Calls Tryz.prog 19 #[.int .i64 c,.int .i64 keep,.int .i64 n,.int .i64 m] W fun e W'=>zjg j k a b W e W') :
  Calls Tryz.prog 10 #[.int .i64 c,.int .i64 keep,.int .i64 n,.int .i64 m] w fun e W=>zi9 f (tlM j) true w e W:=by
 unfold zjg at c1;rw[<- hf]at c1;have c2:=fun (sa ta va:Option Addr) (sl sc tl tc vl vc:Nat) (W:World) (h:FleetAt W sa sl sc ta tl tc va vl vc f)=>ziz f sa ta va sl sc tl tc vl vc W h;have c3:=fun (sa ta va:Option Addr) (sc tc vc:Nat) (W:World) (h:FleetAt W sa f.ss.length sc ta f.ts.length tc va f.vs.length vc f)=>ztm f sa ta va f.ss.length sc f.ts.length tc f.vs.length vc 512 W h;have c4:=fun (sa ta va:Option Addr) (sl sc tl tc vl vc:Nat) (ma:Option Addr) (mc:Nat) (W:World) (h:FleetAt W sa sl sc ta tl tc va vl vc f) (hm:MvsAt W ma (tlM j))=>zmz f sa ta va sl sc tl tc vl vc (tlM j) ma mc true W h hm hS;have HPI:=zaa hP;clear hf hS hP;generalize hM:tlM j=M at *;clear hM;obtain⟨q,hq⟩:∃ q,q=M.length:=⟨_,rfl⟩;have HQ:=zaa hq;rw[<- hq]at c1 c4 hml;clear hq
 go_enter Tryz.func10,Tryz.ntmps10
 go_wp2_with (first
  |(go_at_call 19;refine(c1 _).mono ?_;rintro e w1 hT;obtain⟨sa,sl,sc,ta,tl,tc,va,vl,vc,ma,mc,rfl,hF,hM1,hb1⟩:=hT;have HF:=zaa hF;have HM:=zaa hM1;have F1:=box3 w1 (.slice sa sl sc) (.slice ta tl tc) (.slice va vl vc) 26;have B1:=zaa (thn3 hb1 (bel1 w1 (.cells #[.slice sa sl sc,.slice ta tl tc,.slice va vl vc] 26)));clear hF hM1)
  |(go_at_call 21;refine(c2 _ _ _ _ _ _ _ _ _ _ (HF.out.keep (bel1 w1 _))).mono ?_;rintro e w2 hT;obtain⟨sa',sc',ta',tc',va',vc',rfl,hF,hb2⟩:=hT;have HF2:=zaa hF;have B2:=zaa (thn3 B1.out hb2);have f2:=zaq hb2 F1;clear hF)
  |(go_at_call 20;refine(c3 _ _ _ _ _ _ _ HF2.out).mono ?_;rintro e w3 ⟨⟨u,ms',er,rfl,ho,hPI⟩,hb3⟩;obtain⟨rfl,rfl⟩:=hPI.uniq HPI.out;rw[<- HQ.out]at ho;obtain⟨pa,pc,rfl,hM3⟩:=zyi ho HQ.out.symm;have HM3:=zaa hM3;have f3:=zaq hb3 f2;have B3:=zaa (thn3 B2.out hb3);have HA:=zaa (HM.out.keep (thn3 (thn3 (bel1 w1 _) hb2) hb3));clear ho hPI hM3))
 clear c1 c2 c3
 go_loopw [13] (fun vi wr=>∃ i:Nat,i<=q/\vi=.int .i64 i/\Below w3.heap.size w3 wr) (fun i _=>q-(intOf i).toNat)
 case atStart=>exact⟨0,qk _,rfl,Below.refl _ _⟩
 case round =>
  obtain⟨i,hi,rfl,hb5⟩:=hrel
  rename World=>w5
  have hx0 := znn i;by_cases hlt:i<q
  ·obtain⟨x,hmi⟩:∃ x,ms'[i]?=some x:=⟨ms'[i]'(by have:=HQ.out;omega),List.getElem?_eq_getElem _⟩;obtain⟨b1,o1,rfl,k0,k1⟩:=HM3.out i x hmi;obtain⟨b2,o2,rfl,l0,l1⟩:=HA.out i x hmi;have k0:=zab hb5 k0;have k1:=zab hb5 k1;have l0:=zab hb5 l0;have l1:=zab hb5 l1;have hx1:(i:Int)<(q:Int):=by omega
   obtain⟨mx,my⟩:=x;simp only at k0 k1 l0 l1;have d1:(mx == mx)=true:=by simp
   have d2:(mx != mx)=false:=by simp
   have d3:decide (mx=mx)=true:=by simp
   have e1:(my == my)=true:=by simp
   have e2:(my != my)=false:=by simp
   have e3:decide (my=my)=true:=by simp
   clear hmi
   go_wp2_with fail
   go_quiet (fail)
   go_wp2_with fail
   go_roundw
   case rel=>exact⟨i+1,by omega,by go_num,below_drewN hb5 _⟩
   case measure=>simp[intOf];omega
  ·obtain rfl:q=i:=by omega
   have f5:=zaq hb5 f3;have B5:=zaa (thn3 B3.out hb5)
   go_wp2_with (first
    |(go_at_call 22;refine(c4 _ _ _ _ _ _ _ _ _ _ _ _ (HF.out.keep (thn3 (thn3 (thn3 (bel1 w1 _) hb2) hb3) hb5)) (HM3.out.keep hb5)).mono ?_;rintro e w6 hP6;obtain⟨gb,r,L,w0,rfl,hB,hz,hb6⟩:=hP6;have HB:=zaa hB;have HZ:=zaa hz;have B6:=zaa (thn3 B5.out hb6);clear hB hz hb6))
   go_ret;exact⟨gb,r,L,w0,rfl,HB.out,HZ.out,B6.out⟩
theorem zy6 (c keep n m:Int)(hc:-9223372036854775808<=c/\c<=9223372036854775807)(hk:-9223372036854775808<=keep/\keep<=9223372036854775807)(hn:-9223372036854775808<=n/\n<=9223372036854775807)(hm:-9223372036854775808<=m/\m<=9223372036854775807)(w:World):∃ (j:Nat) (k a b:Int) (f:zac),j<5/\(1<=k/\k<=6)/\f=tlF j k a b/\Sfe f (tlM j)/\Calls Tryz.prog 10 #[.int .i64 c,.int .i64 keep,.int .i64 n,.int .i64 m] w fun e W=>zi9 f (tlM j) true w e W:=by
 have b1:=zbn keep (n:=6) (by omega);have b2:=zbn n (n:=3) (by omega);have b3:=zbn m (n:=3) (by omega);have b4:=zbn c (n:=5) (by omega);obtain⟨f,hf⟩:∃ f,f=tlF (pckN c 5) (1+(pckN keep 6:Nat)) (1+(pckN n 3:Nat)) (1+(pckN m 3:Nat)):=⟨_,rfl⟩;obtain⟨hP,hS⟩:=yad0 b4 (by omega) (by omega) (by omega) hf;exact⟨_,_,_,_,f,b4,by omega,hf,zlm hS,zy7 c keep n m _ _ _ _ f hf (yadq _) (zlm hS) hP w (fun W=>yadi c keep n m hc hk hn hm W)⟩
end
section
theorem zwr {w:World}{gb r nm:Nat}{sv:Value}(A:World->Prop)(B:Nat->World->Prop)(C D E F G:World->Prop)(hm:nm<=2000000)
  (c1:Calls Tryz.prog 11 #[.pointer (some ⟨gb,0,none⟩),sv] w fun e W=>e=.returned (.bool true)/\A W)
  (jA:∀ W,A W->W.cell? ⟨gb,5,none⟩=some (.pointer (some ⟨r,0,none⟩)))
  (c2:∀ W,A W->Calls Tryz.prog 28 #[.pointer (some ⟨r,0,none⟩),.bool false] W fun e W=>(∃ n,e=.returned (.int .i64 n))/\B 0 W)
  (jB:∀ k W,B k W->∃ ma mc,W.cell? ⟨gb,3,none⟩=some (.slice ma nm mc))
  (c3:∀ k W,k<(nm+1)*9->B k W->Calls Tryz.prog 29 #[.pointer (some ⟨gb,0,none⟩)] W fun e W=>e=.returned (.bool true)/\B (k+1) W)
  (c4:∀ W,B ((nm+1)*9) W->Calls Tryz.prog 30 #[.pointer (some ⟨gb,0,none⟩)] W fun e W=>e=.returned (.bool true)/\C W)
  (jC:∀ W,C W->W.cell? ⟨gb,5,none⟩=some (.pointer (some ⟨r,0,none⟩)))
  (c5:∀ W,C W->Calls Tryz.prog 31 #[.pointer (some ⟨r,0,none⟩)] W fun e W=>e=.returned (.int .i64 17)/\D W)
  (jD:∀ W,D W->W.cell? ⟨gb,5,none⟩=some (.pointer (some ⟨r,0,none⟩)))
  (c6:∀ W,D W->Calls Tryz.prog 32 #[.pointer (some ⟨r,0,none⟩)] W fun e W=>e=.returned (.tuple #[])/\E W)
  (c7:∀ W,E W->Calls Tryz.prog 29 #[.pointer (some ⟨gb,0,none⟩)] W fun e W=>(∃ x,e=.returned (.bool x))/\F W)
  (c8:∀ W,F W->Calls Tryz.prog 30 #[.pointer (some ⟨gb,0,none⟩)] W fun e W=>e=.returned (.bool true)/\G W) :
  Calls Tryz.prog 14 #[.pointer (some ⟨gb,0,none⟩),sv] w fun e W=>e=.returned (.bool true)/\G W:=by
 have JB:=zaa jB;clear jB
 go_enter Tryz.func14,Tryz.ntmps14
 go_wp2_with (first
  |(go_at_call 11;refine c1.mono ?_;rintro e w1 ⟨rfl,hA⟩;have y5:=jA _ hA)
  |(go_at_call 28;refine(c2 _ hA).mono ?_;rintro e w2 ⟨⟨pn,rfl⟩,hB0⟩))
 go_loopw [6] (fun vi wr=>∃ k:Nat,k<=(nm+1)*9/\vi=.int .i64 k/\B k wr) (fun i _=>(nm+1)*9-(intOf i).toNat)
 case atStart=>exact⟨0,qk _,rfl,hB0⟩
 case round =>
  obtain⟨k,hk,rfl,hB⟩:=hrel
  rename World=>w3
  obtain⟨ma,mc,z3⟩:=JB.out k w3 hB;have hk0 := znn k;by_cases hkn:k<(nm+1)*9
  ·have hki:(k:Int)<((nm:Int)+1)*9:=by omega
   go_wp2_with (first
    |(go_at_call 29;refine(c3 k _ hkn hB).mono ?_;rintro e w4 ⟨rfl,hB4⟩))
   go_roundw
   case rel=>exact⟨k+1,by omega,by go_num,hB4⟩
   case measure=>simp[intOf];omega
  ·obtain rfl:k=(nm+1)*9:=by omega
   have hki:¬ ((((nm+1)*9:Nat):Int)<((nm:Int)+1)*9):=by omega
   go_wp2_with (first
    |(go_at_call 30;have hq:=hF;refine(c8 _ hF).mono ?_;rintro e w9 ⟨rfl,hG⟩)
    |(go_at_call 30;refine(c4 _ hB).mono ?_;rintro e w5 ⟨rfl,hC⟩;have z5:=jC _ hC)
    |(go_at_call 31;refine(c5 _ hC).mono ?_;rintro e w6 ⟨rfl,hD⟩;have v5:=jD _ hD)
    |(go_at_call 32;refine(c6 _ hD).mono ?_;rintro e w7 ⟨rfl,hE⟩)
    |(go_at_call 29;refine(c7 _ hE).mono ?_;rintro e w8 ⟨⟨x,rfl⟩,hF⟩))
   go_ret;exact⟨rfl,hG⟩
end
end Go.Proofs.YtkkekopomiehlabGreatDoor
