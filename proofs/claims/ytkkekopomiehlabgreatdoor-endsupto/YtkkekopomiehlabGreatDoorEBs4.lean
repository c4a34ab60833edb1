import Derived.Test.YtkkekopomiehlabGreatDoorEBs1
set_option linter.unusedVariables false
set_option linter.unusedSimpArgs false
set_option maxHeartbeats 40000000
set_option maxRecDepth 4000
open Nat renaming le_refl->xe
open Go.RowKit
namespace Go.Proofs.YtkkekopomiehlabGreatDoor
section
theorem zq3 {F:Nat->Bool}:∀ n j,rN F n j<=j+n
 |0,j=>xe _
 |n+1,j=>by
  rw[rN];split
  ·have:=zq3 (F:=F) n (j+1);omega
  ·omega
theorem yabv {f:zac}{ms:List (Int×Int)}:(zbd f ms).1<=(ms.length:Int):=by
 cases ho:ordB f with
 |false=>unfold zbd;rw[ho];simp
 |true =>
  rw[zlh (zb3 ho) ho];split
  ·split
   ·have:=zq3 (F:=rsB f ms) ms.length 0;show ((rN (rsB f ms) ms.length 0:Nat):Int)<=_;omega
   ·show (0:Int)<=_;omega
  ·show (0:Int)<=_;omega
theorem yabw {f:zac}{ms:List (Int×Int)}(h:(zbd f ms).2=0):ordB f=true:=by
 cases ho:ordB f with
 |true=>rfl
 |false=>unfold zbd at h;rw[ho]at h;simp at h
def zi8 (f:zac)(ms:List (Int×Int))(w:World)(e:Ending)(W:World):Prop:=(Sfe f ms/\∃ gb r L w0,e=.returned (.tuple #[.pointer (some ⟨gb,0,none⟩),.bool true])/\BookE w0 W L gb r (bok0 f ms false)/\w0.heap.size<=gb/\Below w.heap.size w w0)\/(¬ Sfe f ms/\e=.returned (.tuple #[.pointer none,.bool true])/\Below w.heap.size w W)
theorem zmv (f:zac)(sa ta va:Option Addr)(sl sc tl tc vl vc:Nat)(ms:List (Int×Int))(ma:Option Addr)(mc:Nat)(w:World)(hf:FleetAt w sa sl sc ta tl tc va vl vc f)(hm:MvsAt w ma ms)(hml:ms.length<=2000000) :
  Calls Tryz.prog 13 #[.agg #[.slice sa sl sc,.slice ta tl tc,.slice va vl vc],.slice ma ms.length mc] w fun e W=>zi8 f ms w e W:=by
 have c1:=fun (W:World) (h:Below w.heap.size w W)=>ziz f sa ta va sl sc tl tc vl vc W (hf.keep h);have c2:=fun (sa' ta' va':Option Addr) (sc' tc' vc':Nat) (W:World) (h:Below w.heap.size w W) (hF:FleetAt W sa' f.ss.length sc' ta' f.ts.length tc' va' f.vs.length vc' f)=>zjc f sa' ta' va' f.ss.length sc' f.ts.length tc' f.vs.length vc' ms ma mc W hF hml (hm.keep h);have c3:=fun (W:World) (h:Below w.heap.size w W)=>yacg f sa ta va sl sc tl tc vl vc W (hf.keep h);have F0:=box3 w (.slice sa sl sc) (.slice ta tl tc) (.slice va vl vc) 26;have B0:=zaa (bel1 w (.cells #[.slice sa sl sc,.slice ta tl tc,.slice va vl vc] 26));have hle:=yabv (f:=f) (ms:=ms);by_cases hS:zbd f ms=((ms.length:Int),0)
 ·have hsf:=zlm hS;have c4:=fun (W:World) (h:Below w.heap.size w W)=>zmz f sa ta va sl sc tl tc vl vc ms ma mc false W (hf.keep h) (hm.keep h) hsf;rw[hS]at c2;rw[hsf.ob]at c3;have HSF:=zaa hsf;clear hf hm hle hS hsf hml;obtain⟨n,hn⟩:∃ n,n=ms.length:=⟨_,rfl⟩;rw[<- hn]at c2 c4 ⊢;clear hn
  go_enter Tryz.func13,Tryz.ntmps13
  go_wp2_with (first
   |(go_at_call 21;refine(c1 _ B0.out).mono ?_;rintro e w1 hT;obtain⟨sa',sc',ta',tc',va',vc',rfl,hF,hb1⟩:=hT;have HF1:=zaa hF;have B1:=zaa (thn3 B0.out hb1);have f1:=zaq hb1 F0;clear hF)
   |(go_at_call 25;refine(c2 sa' ta' va' sc' tc' vc' _ B1.out HF1.out).mono ?_;rintro e w2 ⟨rfl,hb2⟩;have B2:=zaa (thn3 B1.out hb2);have f2:=zaq hb2 f1)
   |(go_at_call 26;refine(c3 _ B2.out).mono ?_;rintro e w3 ⟨rfl,hb3⟩;have B3:=zaa (thn3 B2.out hb3);have f3:=zaq hb3 f2)
   |(go_at_call 22;refine(c4 _ B3.out).mono ?_;rintro e w4 hP;obtain⟨gb,r,L,w0,rfl,hB,hz,hb4⟩:=hP;have HB:=zaa hB;have HZ:=zaa hz;have HB4:=zaa (thn3 B3.out hb4);clear hB hz hb4))
  exact bodyPost_ret (v:=.tuple #[.pointer (some ⟨gb,0,none⟩),.bool true]) (by simp[results,Tryz.results13,go_sem]) rfl (.inl ⟨HSF.out,gb,r,L,w0,rfl,HB.out,HZ.out,HB4.out⟩)
 ·have hno:(zbd f ms).2≠0\/(zbd f ms).1<(ms.length:Int):=by
   rcases Int.lt_or_le (zbd f ms).1 (ms.length:Int)with q|q
   ·exact .inr q
   ·refine .inl fun q2=>hS (Prod.ext (by show (zbd f ms).1=(ms.length:Int);omega) q2)
  have c4:=fun (sa' ta' va':Option Addr) (sc' tc' vc':Nat) (W:World) (h:Below w.heap.size w W) (hF:FleetAt W sa' f.ss.length sc' ta' f.ts.length tc' va' f.vs.length vc' f)=>ztw f sa' ta' va' f.ss.length sc' f.ts.length tc' f.vs.length vc' ms ma mc W hF (hm.keep h) hml hno;have hor:=yabw (f:=f) (ms:=ms);unfold staE at c4;have HNS:Hid (¬ Sfe f ms):=fun q=>hS (zrn q);clear hf hm hS hle hml;generalize (zbd f ms).1=x at *;generalize (zbd f ms).2=y at *;by_cases hy:y=0
  ·subst hy;rw[hor rfl]at c3;have hx:x<(ms.length:Int):=by omega
   rw[if_pos rfl]at c4;clear hno hor;obtain⟨n,hn⟩:∃ n,n=ms.length:=⟨_,rfl⟩;rw[<- hn]at c2 c4 hx ⊢;clear hn
   go_enter Tryz.func13,Tryz.ntmps13
   go_wp2_with (first
    |(go_at_call 21;have hq:=B3;refine(c1 _ B3.out).mono ?_;rintro e w4 hT;obtain⟨sb',sd',tb',td',vb',vd',rfl,hF,hb4⟩:=hT;have HF4:=zaa hF;have B4:=zaa (thn3 B3.out hb4);clear hF)
    |(go_at_call 21;refine(c1 _ B0.out).mono ?_;rintro e w1 hT;obtain⟨sa',sc',ta',tc',va',vc',rfl,hF,hb1⟩:=hT;have HF1:=zaa hF;have B1:=zaa (thn3 B0.out hb1);have f1:=zaq hb1 F0;clear hF)
    |(go_at_call 25;refine(c2 sa' ta' va' sc' tc' vc' _ B1.out HF1.out).mono ?_;rintro e w2 ⟨rfl,hb2⟩;have B2:=zaa (thn3 B1.out hb2);have f2:=zaq hb2 f1)
    |(go_at_call 26;refine(c3 _ B2.out).mono ?_;rintro e w3 ⟨rfl,hb3⟩;have B3:=zaa (thn3 B2.out hb3);have f3:=zaq hb3 f2)
    |(go_at_call 27;refine(c4 sb' tb' vb' sd' td' vd' _ B4.out HF4.out).mono ?_;rintro e w5 ⟨rfl,hb5⟩))
   exact bodyPost_ret (v:=.tuple #[.pointer none,.bool true]) (by simp[results,Tryz.results13,go_sem]) rfl (.inr ⟨HNS.out,rfl,thn3 B4.out hb5⟩)
  ·rw[if_neg hy]at c4;have e1:(y == 0)=false:=by simp[hy]
   have e2:decide (y=0)=false:=by simp[hy]
   have e3:(y == y)=true:=by simp
   have e4:decide (y=y)=true:=by simp
   clear hno hor;generalize ordB f=ob at *;obtain⟨n,hn⟩:∃ n,n=ms.length:=⟨_,rfl⟩;rw[<- hn]at c2 c4 ⊢;clear hn
   go_enter Tryz.func13,Tryz.ntmps13
   go_wp2_with (first
    |(go_at_call 21;have hq:=B3;refine(c1 _ B3.out).mono ?_;rintro e w4 hT;obtain⟨sb',sd',tb',td',vb',vd',rfl,hF,hb4⟩:=hT;have HF4:=zaa hF;have B4:=zaa (thn3 B3.out hb4);clear hF)
    |(go_at_call 21;refine(c1 _ B0.out).mono ?_;rintro e w1 hT;obtain⟨sa',sc',ta',tc',va',vc',rfl,hF,hb1⟩:=hT;have HF1:=zaa hF;have B1:=zaa (thn3 B0.out hb1);have f1:=zaq hb1 F0;clear hF)
    |(go_at_call 25;refine(c2 sa' ta' va' sc' tc' vc' _ B1.out HF1.out).mono ?_;rintro e w2 ⟨rfl,hb2⟩;have B2:=zaa (thn3 B1.out hb2);have f2:=zaq hb2 f1)
    |(go_at_call 26;refine(c3 _ B2.out).mono ?_;rintro e w3 ⟨rfl,hb3⟩;have B3:=zaa (thn3 B2.out hb3);have f3:=zaq hb3 f2)
    |(go_at_call 27;refine(c4 sb' tb' vb' sd' td' vd' _ B4.out HF4.out).mono ?_;rintro e w5 ⟨rfl,hb5⟩))
   exact bodyPost_ret (v:=.tuple #[.pointer none,.bool true]) (by simp[results,Tryz.results13,go_sem]) rfl (.inr ⟨HNS.out,rfl,thn3 B4.out hb5⟩)
theorem zug {f:zac}{sa ta va:Option Addr}{sl sc tl tc vl vc:Nat}{ms:List (Int×Int)}{ma:Option Addr}{mc:Nat}{w:World}(hS:Sfe f ms)(h:Calls Tryz.prog 13 #[.agg #[.slice sa sl sc,.slice ta tl tc,.slice va vl vc],.slice ma ms.length mc] w fun e W=>zi8 f ms w e W):Calls Tryz.prog 13 #[.agg #[.slice sa sl sc,.slice ta tl tc,.slice va vl vc],.slice ma ms.length mc] w fun e W=>∃ gb r L w0,e=.returned (.tuple #[.pointer (some ⟨gb,0,none⟩),.bool true])/\BookE w0 W L gb r (bok0 f ms false)/\w0.heap.size<=gb/\Below w.heap.size w w0 :=
 h.mono fun e W q=>by
  rcases q with⟨_,q⟩|⟨q,_⟩
  ·exact q
  ·exact absurd hS q
theorem zuf {f:zac}{sa ta va:Option Addr}{sl sc tl tc vl vc:Nat}{ms:List (Int×Int)}{ma:Option Addr}{mc:Nat}{w:World}(hS:¬ Sfe f ms)(h:Calls Tryz.prog 13 #[.agg #[.slice sa sl sc,.slice ta tl tc,.slice va vl vc],.slice ma ms.length mc] w fun e W=>zi8 f ms w e W):Calls Tryz.prog 13 #[.agg #[.slice sa sl sc,.slice ta tl tc,.slice va vl vc],.slice ma ms.length mc] w fun e W=>e=.returned (.tuple #[.pointer none,.bool true])/\Below w.heap.size w W :=
 h.mono fun e W q=>by
  rcases q with⟨q,_⟩|⟨_,q⟩
  ·exact absurd q hS
  ·exact q
end
section
set_option maxRecDepth 100000
end
section
end
section
end
section
theorem zbt (w:World)(o:Obj):(w.alloc o).heap[w.heap.size]?=some o:=by show (w.heap.push o)[w.heap.size]?=some o;simp
theorem zem (a b:Int)(w:World):Calls Tryz.prog 45 #[.int .i64 a,.int .i64 b] w fun e W=>∃ g,e=.returned (.agg #[.slice (some ⟨g,0,none⟩) 1 1])/\RowIs W g 165 [.int .i64 0,.int .i64 a,.int .i64 b]/\Below w.heap.size w W:=by
 go_enter Tryz.func45,Tryz.ntmps45
 go_wp2_with fail
 refine bodyPost_ret (v:=.agg #[.slice (some ⟨w.heap.size+1,0,none⟩) 1 1]) (by simp[results,Tryz.results45,go_sem]) rfl ?_;refine⟨w.heap.size+1,rfl,?_,thn3 (bel1 _ _) (bel1 _ _)⟩;have:=zbt (w.alloc (.cells #[.slice (some ⟨w.heap.size+1,0,none⟩) 1 1] 108)) (.cells #[.int .i64 0,.int .i64 a,.int .i64 b] 165);rw[show (w.alloc (.cells #[.slice (some ⟨w.heap.size+1,0,none⟩) 1 1] 108)).heap.size=w.heap.size+1 by simp]at this;exact this
theorem yae6 (sz:Int)(w:World):Calls Tryz.prog 43 #[.int .i64 sz] w fun e W=>∃ g p1 p2,e=.returned (.agg #[.int .i64 sz,.int .i64 0,.int .i64 1,.slice (some ⟨g,0,none⟩) 2 2])/\RowIs W g 108 [.slice (some ⟨p1,0,none⟩) 1 1,.slice (some ⟨p2,0,none⟩) 1 1]/\RowIs W p1 165 [.int .i64 0,.int .i64 0,.int .i64 (-1)]/\RowIs W p2 165 [.int .i64 0,.int .i64 1,.int .i64 (-1)]/\Below w.heap.size w W:=by
 have c1:=fun W=>zem 0 (-1) W;have c2:=fun W=>zem 1 (-1) W;have z0:RowIs (w.alloc (.cells #[.int .i64 0,.int .i64 0,.int .i64 0,.slice none 0 0] 73)) w.heap.size 73 [.int .i64 0,.int .i64 0,.int .i64 0,.slice none 0 0]:=zbt _ _;have Z0:= zaa z0;clear z0
 go_enter Tryz.func43,Tryz.ntmps43
 go_wp2_with (first
  |(go_at_call 45;have hq:=hb1;refine(c2 _).mono ?_;rintro e w2 ⟨p2,rfl,hr2,hb2⟩;have HR1:=(zaa (hr1.out.keep hb2));have HR2:= zaa hr2;have Z2:=(zaa (((Z0.out.keep hb1).keep hb2).keep (bel1 w2 (.cells #[.slice (some ⟨p1,0,none⟩) 1 1,.slice (some ⟨p2,0,none⟩) 1 1] 108))));have y0:=Z2.out.cell (j:=0) rfl;have y1:=Z2.out.cell (j:=1) rfl;have y2:=Z2.out.cell (j:=2) rfl;have y3:=Z2.out.cell (j:=3) rfl;have x0:=Z2.out.frozen 0;have x1:=Z2.out.frozen 1;have x2:=Z2.out.frozen 2;have x3:=Z2.out.frozen 3)
  |(go_at_call 45;refine(c1 _).mono ?_;rintro e w1 ⟨p1,rfl,hr1,hb1⟩;have hr1:=(zaa hr1)))
 have Z3:=(((Z2.out.set 0 (.int .i64 sz)).set 1 (.int .i64 0)).set 2 (.int .i64 1)).set 3 (.slice (some ⟨w2.heap.size,0,none⟩) 2 2);have k0:=Z3.cell (j:=0) rfl;have k1:=Z3.cell (j:=1) rfl;have k2:=Z3.cell (j:=2) rfl;have k3:=Z3.cell (j:=3) rfl;have hB2:=thn3 (thn3 (thn3 (bel1 w _) hb1) hb2) (bel1 w2 (.cells #[.slice (some ⟨p1,0,none⟩) 1 1,.slice (some ⟨p2,0,none⟩) 1 1] 108));have lz:=((Z0.out.keep hb1).keep hb2).lt;have n1:=(HR1.out.keep (bel1 w2 (.cells #[.slice (some ⟨p1,0,none⟩) 1 1,.slice (some ⟨p2,0,none⟩) 1 1] 108))).ne Z2.out (by decide);have n2:=(HR2.out.keep (bel1 w2 (.cells #[.slice (some ⟨p1,0,none⟩) 1 1,.slice (some ⟨p2,0,none⟩) 1 1] 108))).ne Z2.out (by decide);refine bodyPost_ret (v:=.agg #[.int .i64 sz,.int .i64 0,.int .i64 1,.slice (some ⟨w2.heap.size,0,none⟩) 2 2]) (by simp[results,Tryz.results43,go_sem,k0,k1,k2,k3]) rfl ?_;refine⟨w2.heap.size,p1,p2,rfl,?_,?_,?_,(((hB2.setCell (xe _) _).setCell (xe _) _).setCell (xe _) _).setCell (xe _) _⟩
 ·have hne:(⟨w.heap.size,0,none⟩:Addr).block≠w2.heap.size:=by show w.heap.size≠_;omega
  exact((((show RowIs (w2.alloc (.cells #[.slice (some ⟨p1,0,none⟩) 1 1,.slice (some ⟨p2,0,none⟩) 1 1] 108)) w2.heap.size 108 _ from zbt _ _).setOther (by exact hne) _).setOther (by exact hne) _).setOther (by exact hne) _).setOther (by exact hne) _
 ·exact((((HR1.out.keep (bel1 w2 (.cells #[.slice (some ⟨p1,0,none⟩) 1 1,.slice (some ⟨p2,0,none⟩) 1 1] 108))).setOther (by exact n1.symm) _).setOther (by exact n1.symm) _).setOther (by exact n1.symm) _).setOther (by exact n1.symm) _
 ·exact((((HR2.out.keep (bel1 w2 (.cells #[.slice (some ⟨p1,0,none⟩) 1 1,.slice (some ⟨p2,0,none⟩) 1 1] 108))).setOther (by exact n2.symm) _).setOther (by exact n2.symm) _).setOther (by exact n2.symm) _).setOther (by exact n2.symm) _
theorem yabf (sz:Int)(w:World):Calls Tryz.prog 44 #[.int .i64 sz] w fun e W=>∃ g p1 p2,e=.returned (.agg #[.int .i64 sz,.int .i64 0,.int .i64 1,.slice (some ⟨g,0,none⟩) 2 2])/\RowIs W g 108 [.slice (some ⟨p1,0,none⟩) 1 1,.slice (some ⟨p2,0,none⟩) 1 1]/\RowIs W p1 165 [.int .i64 0,.int .i64 (-1),.int .i64 0]/\RowIs W p2 165 [.int .i64 0,.int .i64 (-1),.int .i64 1]/\Below w.heap.size w W/\w.heap.size<=g:=by
 have c1:=fun W=>zem (-1) 0 W;have c2:=fun W=>zem (-1) 1 W;have z0:RowIs (w.alloc (.cells #[.int .i64 0,.int .i64 0,.int .i64 0,.slice none 0 0] 73)) w.heap.size 73 [.int .i64 0,.int .i64 0,.int .i64 0,.slice none 0 0]:=zbt _ _;have Z0:= zaa z0;clear z0
 go_enter Tryz.func44,Tryz.ntmps44
 go_wp2_with (first
  |(go_at_call 45;have hq:=hb1;refine(c2 _).mono ?_;rintro e w2 ⟨p2,rfl,hr2,hb2⟩;have HR1:=(zaa (hr1.out.keep hb2));have HR2:= zaa hr2;have Z2:=(zaa (((Z0.out.keep hb1).keep hb2).keep (bel1 w2 (.cells #[.slice (some ⟨p1,0,none⟩) 1 1,.slice (some ⟨p2,0,none⟩) 1 1] 108))));have y0:=Z2.out.cell (j:=0) rfl;have y1:=Z2.out.cell (j:=1) rfl;have y2:=Z2.out.cell (j:=2) rfl;have y3:=Z2.out.cell (j:=3) rfl;have x0:=Z2.out.frozen 0;have x1:=Z2.out.frozen 1;have x2:=Z2.out.frozen 2;have x3:=Z2.out.frozen 3)
  |(go_at_call 45;refine(c1 _).mono ?_;rintro e w1 ⟨p1,rfl,hr1,hb1⟩;have hr1:=(zaa hr1)))
 have Z3:=(((Z2.out.set 0 (.int .i64 sz)).set 1 (.int .i64 0)).set 2 (.int .i64 1)).set 3 (.slice (some ⟨w2.heap.size,0,none⟩) 2 2);have k0:=Z3.cell (j:=0) rfl;have k1:=Z3.cell (j:=1) rfl;have k2:=Z3.cell (j:=2) rfl;have k3:=Z3.cell (j:=3) rfl;have hB2:=thn3 (thn3 (thn3 (bel1 w _) hb1) hb2) (bel1 w2 (.cells #[.slice (some ⟨p1,0,none⟩) 1 1,.slice (some ⟨p2,0,none⟩) 1 1] 108));have lz:=((Z0.out.keep hb1).keep hb2).lt;have n1:=(HR1.out.keep (bel1 w2 (.cells #[.slice (some ⟨p1,0,none⟩) 1 1,.slice (some ⟨p2,0,none⟩) 1 1] 108))).ne Z2.out (by decide);have n2:=(HR2.out.keep (bel1 w2 (.cells #[.slice (some ⟨p1,0,none⟩) 1 1,.slice (some ⟨p2,0,none⟩) 1 1] 108))).ne Z2.out (by decide);refine bodyPost_ret (v:=.agg #[.int .i64 sz,.int .i64 0,.int .i64 1,.slice (some ⟨w2.heap.size,0,none⟩) 2 2]) (by simp[results,Tryz.results44,go_sem,k0,k1,k2,k3]) rfl ?_;refine⟨w2.heap.size,p1,p2,rfl,?_,?_,?_,(((hB2.setCell (xe _) _).setCell (xe _) _).setCell (xe _) _).setCell (xe _) _,by omega⟩
 ·have hne:(⟨w.heap.size,0,none⟩:Addr).block≠w2.heap.size:=by show w.heap.size≠_;omega
  exact((((show RowIs (w2.alloc (.cells #[.slice (some ⟨p1,0,none⟩) 1 1,.slice (some ⟨p2,0,none⟩) 1 1] 108)) w2.heap.size 108 _ from zbt _ _).setOther (by exact hne) _).setOther (by exact hne) _).setOther (by exact hne) _).setOther (by exact hne) _
 ·exact((((HR1.out.keep (bel1 w2 (.cells #[.slice (some ⟨p1,0,none⟩) 1 1,.slice (some ⟨p2,0,none⟩) 1 1] 108))).setOther (by exact n1.symm) _).setOther (by exact n1.symm) _).setOther (by exact n1.symm) _).setOther (by exact n1.symm) _
 ·exact((((HR2.out.keep (bel1 w2 (.cells #[.slice (some ⟨p1,0,none⟩) 1 1,.slice (some ⟨p2,0,none⟩) 1 1] 108))).setOther (by exact n2.symm) _).setOther (by exact n2.symm) _).setOther (by exact n2.symm) _).setOther (by exact n2.symm) _
end
end Go.Proofs.YtkkekopomiehlabGreatDoor
