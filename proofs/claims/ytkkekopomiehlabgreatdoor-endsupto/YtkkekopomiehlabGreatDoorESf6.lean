import Derived.Test.YtkkekopomiehlabGreatDoorESf3
set_option linter.unusedVariables false
set_option linter.unusedSimpArgs false
set_option maxHeartbeats 40000000
set_option maxRecDepth 4000
open ByteArray renaming size_append->xe,empty->xf,data_append->xv,append_assoc->qi,ext->qj
open Go.World renaming rangeAt_setCells_same->xg,rangeAt_setCells_apart->xm,there_setCells->xy
open Int renaming toNat_natCast->xh
open Nat renaming add_assoc->xj,pow_succ->xo,zero_add->qd,add_zero->qe,le_refl->qg
open Option.some renaming injEq->xp
open List renaming map_cons->xq,getElem?_eq_getElem->xu,getElem?_map->qf,length_map->qh
open Prod.mk renaming injEq->xz
namespace Go.Proofs.YtkkekopomiehlabGreatDoor
section
open Go.RowKit
open Go.Lib (below_setCells)
def begD (c:ChD):SiD:=⟨c.fst,c.fst⟩
theorem zd1 {c:ChD}(h:c.ok):(begD c).ok:=⟨h.fst,h.fst⟩
theorem zh9 {l:List Bool}(h:l.length=9):∃ b0 b1 b2 b3 b4 b5 b6 b7 b8,l=[b0,b1,b2,b3,b4,b5,b6,b7,b8]:=by
 match l,h with
 |[b0,b1,b2,b3,b4,b5,b6,b7,b8],_=>exact⟨b0,b1,b2,b3,b4,b5,b6,b7,b8,rfl⟩
theorem zjo (c:ChD)(hc:c.ok)(w:World):Calls Tryz.prog 111 #[.agg c.cells.toArray] w fun e W=>e=.returned (.agg (begD c).cells.toArray)/\Below w.heap.size w W:=by
 have hq1:=zaf (belS _ (.cells #[.bool false,.bool false,.bool false,.bool false,.bool false,.bool false,.bool false,.bool false,.bool false,.bool false,.bool false,.bool false,.bool false,.bool false,.bool false,.bool false,.bool false,.bool false] 177)) (zbl (zal w (.cells c.cells.toArray 114)));have r1:=zc6 (k:=9) (ds:=c.fst.map Value.bool) hq1 (fun j v hj=>by
   rw[qf]at hj;obtain⟨b,hb,rfl⟩:=Option.map_eq_some_iff.1 hj;rw[ChD.cells,qf,hc.get_fst hb];rfl)
 rw[qd]at r1;have i1:(Tryz.prog.info? 111).map (·.size)=some (c.fst.map Value.bool).length:=by rw[qh,hc.fst];exact Tryz.infoSet
 clear hq1;obtain⟨b0,b1,b2,b3,b4,b5,b6,b7,b8,hbs⟩:=zh9 hc.fst;rw[hbs]at r1 i1;have hcl:(begD c).cells=[.bool b0,.bool b1,.bool b2,.bool b3,.bool b4,.bool b5,.bool b6,.bool b7,.bool b8,.bool b0,.bool b1,.bool b2,.bool b3,.bool b4,.bool b5,.bool b6,.bool b7,.bool b8]:=by rw[SiD.cells,begD,hbs];rfl
 have HC:= zaa hcl;simp only[xq,List.map_nil]at r1 i1;clear hcl hbs hc;have hB:Below w.heap.size w ((w.alloc (.cells c.cells.toArray 114)).alloc (.cells #[.bool false,.bool false,.bool false,.bool false,.bool false,.bool false,.bool false,.bool false,.bool false,.bool false,.bool false,.bool false,.bool false,.bool false,.bool false,.bool false,.bool false,.bool false] 177)):=(belS w (.cells c.cells.toArray 114)).alloc (by simp) (.cells #[.bool false,.bool false,.bool false,.bool false,.bool false,.bool false,.bool false,.bool false,.bool false,.bool false,.bool false,.bool false,.bool false,.bool false,.bool false,.bool false,.bool false,.bool false] 177);have ht:=zcm (zal (w.alloc (.cells c.cells.toArray 114)) (.cells #[.bool false,.bool false,.bool false,.bool false,.bool false,.bool false,.bool false,.bool false,.bool false,.bool false,.bool false,.bool false,.bool false,.bool false,.bool false,.bool false,.bool false,.bool false] 177));rw[show (w.alloc (.cells c.cells.toArray 114)).heap.size=w.heap.size+1 by simp]at ht;have ht2:((w.alloc (.cells c.cells.toArray 114)).alloc (.cells #[.bool false,.bool false,.bool false,.bool false,.bool false,.bool false,.bool false,.bool false,.bool false,.bool false,.bool false,.bool false,.bool false,.bool false,.bool false,.bool false,.bool false,.bool false] 177)).there (w.heap.size+1) 0 (#[.bool b0,.bool b1,.bool b2,.bool b3,.bool b4,.bool b5,.bool b6,.bool b7,.bool b8,.bool b0,.bool b1,.bool b2,.bool b3,.bool b4,.bool b5,.bool b6,.bool b7,.bool b8]:Array Value).size:=ht;have hi2:(Tryz.prog.info? 177).map (·.size)=some (#[.bool b0,.bool b1,.bool b2,.bool b3,.bool b4,.bool b5,.bool b6,.bool b7,.bool b8,.bool b0,.bool b1,.bool b2,.bool b3,.bool b4,.bool b5,.bool b6,.bool b7,.bool b8]:Array Value).size:=Tryz.infoSit;have h12:(#[.bool b0,.bool b1,.bool b2,.bool b3,.bool b4,.bool b5,.bool b6,.bool b7,.bool b8,.bool b0,.bool b1,.bool b2,.bool b3,.bool b4,.bool b5,.bool b6,.bool b7,.bool b8]:Array Value).all (·.oneCell')=true:=zd2 [b0,b1,b2,b3,b4,b5,b6,b7,b8,b0,b1,b2,b3,b4,b5,b6,b7,b8];clear ht
 go_enter Tryz.func111,Tryz.ntmps111
 go_wp2_with (first
  |(refine wpList_load_mid (w:=(w.alloc (.cells c.cells.toArray 114)).alloc (.cells #[.bool false,.bool false,.bool false,.bool false,.bool false,.bool false,.bool false,.bool false,.bool false,.bool false,.bool false,.bool false,.bool false,.bool false,.bool false,.bool false,.bool false,.bool false] 177)) rfl 111 _ rfl w.heap.size 9 rfl [.bool b0,.bool b1,.bool b2,.bool b3,.bool b4,.bool b5,.bool b6,.bool b7,.bool b8] _ r1 Tryz.underlying111 rfl i1 ?_)
  |(refine wpList_store_mid (w:=(w.alloc (.cells c.cells.toArray 114)).alloc (.cells #[.bool false,.bool false,.bool false,.bool false,.bool false,.bool false,.bool false,.bool false,.bool false,.bool false,.bool false,.bool false,.bool false,.bool false,.bool false,.bool false,.bool false,.bool false] 177)) rfl 177 _ _ rfl (w.heap.size+1) 0 #[.bool b0,.bool b1,.bool b2,.bool b3,.bool b4,.bool b5,.bool b6,.bool b7,.bool b8,.bool b0,.bool b1,.bool b2,.bool b3,.bool b4,.bool b5,.bool b6,.bool b7,.bool b8] rfl rfl ht2 hi2 h12 ?_))
 have hrs:=xg ((w.alloc (.cells c.cells.toArray 114)).alloc (.cells #[.bool false,.bool false,.bool false,.bool false,.bool false,.bool false,.bool false,.bool false,.bool false,.bool false,.bool false,.bool false,.bool false,.bool false,.bool false,.bool false,.bool false,.bool false] 177)) (w.heap.size+1) 0 [.bool b0,.bool b1,.bool b2,.bool b3,.bool b4,.bool b5,.bool b6,.bool b7,.bool b8,.bool b0,.bool b1,.bool b2,.bool b3,.bool b4,.bool b5,.bool b6,.bool b7,.bool b8] ht2;refine bodyPost_ret (v:=.agg #[.bool b0,.bool b1,.bool b2,.bool b3,.bool b4,.bool b5,.bool b6,.bool b7,.bool b8,.bool b0,.bool b1,.bool b2,.bool b3,.bool b4,.bool b5,.bool b6,.bool b7,.bool b8]) ?_ rfl ⟨by rw[HC.out],below_setCells (w.heap.size+1) (Nat.le_succ _) _ _ hB⟩;have hlv:=run_loadVar_mid (P:=Tryz.prog) _ (w.heap.size+1) 0 177 [.bool b0,.bool b1,.bool b2,.bool b3,.bool b4,.bool b5,.bool b6,.bool b7,.bool b8,.bool b0,.bool b1,.bool b2,.bool b3,.bool b4,.bool b5,.bool b6,.bool b7,.bool b8] _ hrs Tryz.underlying177 rfl Tryz.infoSit;simp[results,Tryz.results111,asAddr,Act.put,hlv]
end
section
open Go.RowKit
open Go.Lib (below_setCells)
def zl9 (w:World)(a:Option Addr)(ms:List (Int×Int)):Prop:=∀ i m,ms[i]?=some m->∃ b o,a=some ⟨b,o,none⟩/\w.cell? ⟨b,o+i*2,none⟩=some (.int .i64 m.1)/\w.cell? ⟨b,o+i*2+1,none⟩=some (.int .i64 m.2)
def aft (s:SiD)(p:Int):SiD:=if 0<=p/\p<9 then aftD s p.toNat else s
theorem zfz {s:SiD}(h:s.ok)(p:Int):(aft s p).ok:=by unfold aft;split;exact zmn h _;exact h
theorem zji (s:SiD)(p:Int)(hs:s.ok)(w:World):Calls Tryz.prog 114 #[.agg s.cells.toArray,.int .i64 p] w fun e W=>e=.returned (.agg (aft s p).cells.toArray)/\Below w.heap.size w W:=by
 unfold aft;by_cases h:0<=p/\p<9
 ·rw[if_pos h];obtain⟨n,rfl⟩:∃ n:Nat,p=n:=⟨p.toNat,by omega⟩;rw[xh];exact zub s n (by omega) hs w
 ·rw[if_neg h];exact zuc s p h hs w
def mvsB (c:ChD):SiD->List (Int×Int)->Bool
 |_,[]=>true
 |s,m::ms=>mvB c s (plI m.1 m.2)&&mvsB c (aft s (plI m.1 m.2)) ms
theorem Tryz.infoCht:(Tryz.prog.info? 114).map (·.size)=some 189:=by kernel_rfl
theorem ChD.ok.len {c:ChD}(h:c.ok):c.cells.length=189:=by
 have h1:=zff c.alg h.algr;have h2:=zff c.fev h.fevr;simp only[ChD.cells,ChD.bits,qh,List.length_append,h.thr,h.fst,h.wnt,h1,h2,h.alg,h.fev]
theorem zea {w w':World}(hb:Below w.heap.size w w'){b o n:Nat}(h:w.there b o n):w'.there b o n:=fun j hj=>by
 obtain⟨h1,h2⟩:=h j hj;obtain⟨v,hv⟩:=Option.isSome_iff_exists.1 h1;have hlt:=World.block_lt_of_cell? w ⟨b,o+j,none⟩ hv;refine⟨?_,?_⟩
 ·rw[hb.cell (p:=⟨b,o+j,none⟩) hlt];exact h1
 ·rw[hb.frozen (p:=⟨b,o+j,none⟩) hlt];exact h2
theorem zdv {s:SiD}(h:s.ok):(Tryz.prog.info? 177).map (·.size)=some s.cells.length/\(Tryz.prog.info? 177).map (·.size)=some s.cells.toArray.size/\s.cells.toArray.all (·.oneCell')=true:=by
 refine⟨by rw[h.len];exact Tryz.infoSit,by rw[List.size_toArray,h.len];exact Tryz.infoSit,zd2 _⟩
theorem zs6 (c:ChD)(hc:c.ok)(ms:List (Int×Int))(w:World)(a:Option Addr)(cap:Nat)(hl:ms.length<=200)(hp:zl9 w a ms) :
  Calls Tryz.prog 67 #[.agg c.cells.toArray,.slice a ms.length cap] w fun e W=>e=.returned (.bool (mvsB c (begD c) ms))/\Below w.heap.size w W:=by
 have hq1:=zbl (zal w (.cells c.cells.toArray 114));have ic:(Tryz.prog.info? 114).map (·.size)=some c.cells.length:=by rw[hc.len];exact Tryz.infoCht
 have hbeg:=fun w=>zjo c hc w;obtain⟨b1,b2,b3⟩:=zdv (zd1 hc);have hlen:=(zd1 hc).len;obtain⟨R,hR⟩:∃ R,R=mvsB c (begD c) ms:=⟨_,rfl⟩;rw[<- hR];have HR:Hid (R=mvsB c (begD c) (ms.drop 0)):=hR;have HP:= zaa hp;have HO:=(zaa (zd1 hc));have HCC:= zaa hc;have HLN:= zaa hlen;have hmv:=fun s p (hs:SiD.ok s) w=>zo5 c s p hc hs w;clear hR hp hc hlen
 go_enter Tryz.func67,Tryz.ntmps67
 go_wp2_with (first
  |(refine wpList_load_mid (w:=w.alloc (.cells c.cells.toArray 114)) rfl 114 _ rfl w.heap.size 0 rfl c.cells _ hq1 Tryz.underlying114 rfl ic ?_)
  |(go_at_call 111;refine(hbeg _).mono ?_;rintro e w1 ⟨rfl,hb1⟩;have ht1:(w1.alloc (.cells #[.bool false,.bool false,.bool false,.bool false,.bool false,.bool false,.bool false,.bool false,.bool false,.bool false,.bool false,.bool false,.bool false,.bool false,.bool false,.bool false,.bool false,.bool false] 177)).there w1.heap.size 0 (begD c).cells.toArray.size:=by (rw[show (begD c).cells.toArray.size=18 by simpa using HLN.out];exact zcm (zal w1 (.cells #[.bool false,.bool false,.bool false,.bool false,.bool false,.bool false,.bool false,.bool false,.bool false,.bool false,.bool false,.bool false,.bool false,.bool false,.bool false,.bool false,.bool false,.bool false] 177))))
  |(refine wpList_store_mid (w:=w1.alloc (.cells #[.bool false,.bool false,.bool false,.bool false,.bool false,.bool false,.bool false,.bool false,.bool false,.bool false,.bool false,.bool false,.bool false,.bool false,.bool false,.bool false,.bool false,.bool false] 177)) rfl 177 _ _ rfl w1.heap.size 0 (begD c).cells.toArray rfl rfl ht1 b2 b3 ?_))
 have hB1:Below w.heap.size w w1:=thn3 (belS w _) hb1;have hBA:Below w1.heap.size w1 (w1.alloc (.cells #[.bool false,.bool false,.bool false,.bool false,.bool false,.bool false,.bool false,.bool false,.bool false,.bool false,.bool false,.bool false,.bool false,.bool false,.bool false,.bool false,.bool false,.bool false] 177)):=belS _ _;have rs0:=xg (w1.alloc (.cells #[.bool false,.bool false,.bool false,.bool false,.bool false,.bool false,.bool false,.bool false,.bool false,.bool false,.bool false,.bool false,.bool false,.bool false,.bool false,.bool false,.bool false,.bool false] 177)) w1.heap.size 0 (begD c).cells (by simpa using ht1);have rt0:((w1.alloc (.cells #[.bool false,.bool false,.bool false,.bool false,.bool false,.bool false,.bool false,.bool false,.bool false,.bool false,.bool false,.bool false,.bool false,.bool false,.bool false,.bool false,.bool false,.bool false] 177)).setCells w1.heap.size 0 (begD c).cells).there w1.heap.size 0 18:=xy (zcm (zal w1 (.cells #[.bool false,.bool false,.bool false,.bool false,.bool false,.bool false,.bool false,.bool false,.bool false,.bool false,.bool false,.bool false,.bool false,.bool false,.bool false,.bool false,.bool false,.bool false] 177))) _ _ _;have rc0:((w1.alloc (.cells #[.bool false,.bool false,.bool false,.bool false,.bool false,.bool false,.bool false,.bool false,.bool false,.bool false,.bool false,.bool false,.bool false,.bool false,.bool false,.bool false,.bool false,.bool false] 177)).setCells w1.heap.size 0 (begD c).cells).rangeAt w.heap.size 0 c.cells:=xm (zaf hBA (zaf hb1 hq1)) _ _ _ (.inl (by have:=hb1.size;simp at this;omega));have hB2:Below w1.heap.size w1 ((w1.alloc (.cells #[.bool false,.bool false,.bool false,.bool false,.bool false,.bool false,.bool false,.bool false,.bool false,.bool false,.bool false,.bool false,.bool false,.bool false,.bool false,.bool false,.bool false,.bool false] 177)).setCells w1.heap.size 0 (begD c).cells):=below_setCells w1.heap.size (qg _) _ _ hBA
 go_loopw [16] (fun vi wr=>∃ (i:Nat) (s:SiD),i<=ms.length/\vi=.int .i64 i/\s.ok/\Hid (R=mvsB c s (ms.drop i))/\wr.rangeAt w1.heap.size 0 s.cells/\wr.there w1.heap.size 0 18/\wr.rangeAt w.heap.size 0 c.cells/\Below w1.heap.size w1 wr) (fun i _=>ms.length-(intOf i).toNat)
 case atStart=>exact⟨0,begD c,Nat.zero_le _,rfl,HO.out,HR,rs0,rt0,rc0,hB2⟩
 case round =>
  obtain⟨i,s,hi,rfl,hso,hr,rs,rt,rc,hb⟩:=hrel
  rename World=>w5
  have hbw:=thn3 hB1 hb;by_cases hlt:i<ms.length
  ·obtain⟨m,hmi⟩:∃ m,ms[i]?=some m:=⟨ms[i],xu hlt⟩;have hdrop:ms.drop i=m::ms.drop (i+1):=by
    rw[List.drop_eq_getElem_cons hlt];rw[xu hlt]at hmi;simp at hmi;rw[hmi]
   obtain⟨b,o,rfl,d0,d1⟩:=HP.out i m hmi;have d0:=zab hbw d0;have d1:=zab hbw d1;have hbl:=zag d0;have hst:R=(mvB c s (plI m.1 m.2)&&mvsB c (aft s (plI m.1 m.2)) (ms.drop (i+1))):=by rw[hr.out,hdrop,mvsB]
   obtain⟨x,y⟩:=m;simp only at d0 d1 hst;have hpl:=fun w=>zkh x y w;have hmv1:=fun w=>hmv s (plI x y) hso w;have haf:=fun w=>zji s (plI x y) hso w;have hao:=zfz hso (plI x y);obtain⟨s1,s2,s3⟩:=zdv hso;obtain⟨q1,q2,q3⟩:=zdv hao;have hx0 := znn i;have hx1:(i:Int)<(ms.length:Int):=by omega
   generalize plI x y=p at hpl hmv1 haf hst hao q1 q2 q3;have HAo:= zaa hao;have HAl:= zaa hao.len;generalize mvB c s p=t at hmv1 hst;clear hmi hdrop hr hmv hao;cases t with
   |false =>
    have hR1:R=false:=hst;clear hst haf;subst hR1
    go_wp2_with (first
     |(go_at_call 107;refine(hpl _).mono ?_;rintro e w2 ⟨rfl,hb2⟩;have rs2:=zaf hb2 (zaf (belS _ _) rs);have rc2:=zaf hb2 (zaf (belS _ _) rc))
     |(go_at_call 112;refine(hmv1 _).mono ?_;rintro e w3 ⟨rfl,hb3⟩)
     |(refine wpList_load_mid (w:=w2) rfl 114 _ rfl w.heap.size 0 rfl c.cells _ rc2 Tryz.underlying114 rfl ic ?_)
     |(refine wpList_load_mid (w:=w2) rfl 177 _ rfl w1.heap.size 0 rfl s.cells _ rs2 Tryz.underlying177 rfl s1 ?_))
    go_ret;exact⟨rfl,thn3 (thn3 (thn3 hbw (belS _ _)) hb2) hb3⟩
   |true =>
    have hst':Hid (R=mvsB c (aft s p) (ms.drop (i+1))):=hst;clear hst
    go_wp2_with (first
     |(go_at_call 107;refine(hpl _).mono ?_;rintro e w2 ⟨rfl,hb2⟩;have rs2:=zaf hb2 (zaf (belS _ _) rs);have rc2:=zaf hb2 (zaf (belS _ _) rc);have rt2:=zea hb2 (zea (belS _ _) rt))
     |(go_at_call 112;refine(hmv1 _).mono ?_;rintro e w3 ⟨rfl,hb3⟩;have rs3:=zaf hb3 rs2;have rc3:=zaf hb3 rc2;have rt3:=zea hb3 rt2)
     |(go_at_call 114;refine(haf _).mono ?_;rintro e w4 ⟨rfl,hb4⟩;have rc4:=zaf hb4 rc3;have rt4:=zea hb4 rt3;have rt4':w4.there w1.heap.size 0 (aft s p).cells.toArray.size:=by (rw[show (aft s p).cells.toArray.size=18 by simpa using HAl.out];exact rt4))
     |(have hq:=hb4;refine wpList_store_mid (w:=w4) rfl 177 _ _ rfl w1.heap.size 0 (aft s p).cells.toArray rfl rfl rt4' q2 q3 ?_)
     |(have hq:=hb3;(refine wpList_load_mid (w:=w3) rfl 177 _ rfl w1.heap.size 0 rfl s.cells _ rs3 Tryz.underlying177 rfl s1 ?_))
     |(refine wpList_load_mid (w:=w2) rfl 114 _ rfl w.heap.size 0 rfl c.cells _ rc2 Tryz.underlying114 rfl ic ?_)
     |(refine wpList_load_mid (w:=w2) rfl 177 _ rfl w1.heap.size 0 rfl s.cells _ rs2 Tryz.underlying177 rfl s1 ?_))
    go_roundw
    case rel =>
     have h4:=thn3 (thn3 (thn3 (thn3 hb (belS _ _)) hb2) hb3) hb4;exact⟨i+1,aft s p,by omega,by go_num,HAo.out,hst',xg _ _ _ _ (by simpa using rt4'),xy rt4 _ _ _,xm rc4 _ _ _ (.inl (by have:=hb1.size;simp at this;omega)),below_setCells w1.heap.size (qg _) _ _ h4⟩
    case measure=>simp[intOf];omega
  ·have hR1:R=true:=by rw[hr.out,List.drop_of_length_le (by omega)];rfl
   clear hr HR;subst hR1
   go_wp2_with fail
   go_ret;exact⟨rfl,hbw⟩
end
section
open Go.RowKit
end
theorem zdz (s:ByteArray)(i:Nat)(h:i<s.size):bAt s i=(s.data[i]'h).toNat:=by rw[zee s i h];rfl
theorem zep (a b:ByteArray)(i:Nat)(h:i<a.size):bAt (a++b) i=bAt a i:=by
 have h2:i<(a++b).size:=by rw[xe];omega
 rw[zdz _ _ h2,zdz _ _ h]
 congr 2
 simp only[xv];exact Array.getElem_append_left h
theorem zhl (a b:ByteArray)(i:Nat):bAt (a++b) (a.size+i)=bAt b i:=by
 by_cases h:i<b.size
 ·have h2:a.size+i<(a++b).size:=by rw[xe];omega
  rw[zdz _ _ h2,zdz _ _ h]
  congr 2
  simp only[xv];rw[Array.getElem_append_right (by show a.data.size<=a.size+i;exact Nat.le_add_right _ _)]
  congr 1
  show a.size+i-a.data.size=i;have:a.data.size=a.size:=rfl;omega
 ·rw[zd0 _ _ (by rw[xe];omega),zd0 _ _ (by omega)]
theorem zct (s:ByteArray)(a b i:Nat)(h1:a+i<b)(h2:b<=s.size):bAt (s.extract a b) i=bAt s (a+i):=by
 have hs:=size_extract s a b (by omega) h2;rw[zdz _ _ (by omega),zdz s _ (by omega)]
 congr 2
 simp only[ByteArray.data_extract];exact Array.getElem_extract _
theorem zfa {a b:ByteArray}(hs:a.size=b.size)(h:∀ i,i<a.size->bAt a i=bAt b i):a=b:=by
 apply qj;apply Array.ext
 ·exact hs
 ·intro i h1 h2;have:=h i h1;rw[zdz _ _ h1,zdz _ _ h2]at this;exact UInt8.toNat_inj.mp (by omega)
theorem zcu (n:Nat)(h:n<256):bAt (oneB n) 0=n:=by
 rw[zdz _ _ (by rw[zak];omega)];simp[oneB,Nat.toUInt8];omega
theorem zgg (m n:Nat):1<=(decS m n).size:=by
 cases m with
 |zero=>rw[decS,zak];exact qg _
 |succ m=>rw[decS];split<;>simp[xe,zak]
theorem zhu:∀ (m n i:Nat),n<10 ^ (m+1)->i<(decS m n).size->48<=bAt (decS m n) i/\bAt (decS m n) i<=57
 |0,n,i,hn,hi=>by
  rw[decS,zak]at hi;obtain rfl:i=0:=by omega
  rw[decS,zcu _ (by omega)];omega
 |m+1,n,i,hn,hi=>by
  rw[decS]at hi ⊢;split at hi
  ·rw[zak]at hi;obtain rfl:i=0:=by omega
   rw[if_pos (by assumption),zcu _ (by omega)];omega
  ·rw[if_neg (by assumption)];rw[xe,zak]at hi;by_cases h:i<(decS m (n / 10)).size
   ·rw[zep _ _ _ h];exact zhu m (n / 10) i (by rw[xo]at hn;omega) h
   ·obtain rfl:i=(decS m (n / 10)).size+0:=by omega
    rw[zhl,zcu _ (by omega)];omega
theorem zj3:∀ (k m n:Nat),n<10 ^ (k+1)->(decS m n).size<=k+1
 |k,0,n,hn=>by rw[decS,zak];omega
 |0,m+1,n,hn=>by rw[decS,if_pos (by simpa using hn),zak];omega
 |k+1,m+1,n,hn=>by
  rw[decS];split
  ·rw[zak];omega
  ·have:=zj3 k m (n / 10) (by rw[xo]at hn;omega);rw[xe,zak];omega
theorem znr:∀ (m n:Nat),n<10 ^ (m+1)->10<=n->bAt (decS m n) 0≠48
 |0,n,hn,h=>by simp at hn;omega
 |m+1,n,hn,h=>by
  rw[decS,if_neg (by omega),zep _ _ _ (zgg m (n / 10))];by_cases h2:10<=n / 10
  ·exact znr m (n / 10) (by rw[xo]at hn;omega) h2
  ·cases m with
   |zero=>rw[decS,zcu _ (by omega)];omega
   |succ m=>rw[decS,if_pos (by omega),zcu _ (by omega)];omega
theorem zv1 (m n:Nat)(hn:n<10 ^ (m+1))(h:2<=(decS m n).size):10<=n:=by
 rcases Nat.lt_or_ge n 10 with h1|h1
 ·have:=zj3 0 m n (by simpa using h1);omega
 ·exact h1
theorem znj (t:ByteArray)(a:Nat):∀ m,(∀ j,j<m->48<=bAt t (a+j))->1<=m->49<=bAt t a->1<=dVal t a m
 |0,_,h,_=>by omega
 |1,_,_,h=>by simp[dVal];omega
 |m+2,hd,_,h=>by
  have:=znj t a (m+1) (fun j hj=>hd j (by omega)) (by omega) h;have:=hd (m+1) (by omega);rw[dVal];omega
theorem zns (t:ByteArray)(a:Nat):∀ (m M:Nat),(∀ j,j<m+1->48<=bAt t (a+j)/\bAt t (a+j)<=57)->(0<m->49<=bAt t a)->m<=M->a+m+1<=t.size->decS M (dVal t a (m+1)).toNat=t.extract a (a+m+1)
 |0,M,hd,h0,hM,hs=>by
  have h1:=hd 0 (by omega);simp only[qe]at h1;have hv:dVal t a 1=bAt t a-48:=by simp[dVal]
  have e:decS M (dVal t a 1).toNat=oneB (48+(dVal t a 1).toNat):=by
   cases M with
   |zero=>rfl
   |succ M=>rw[decS,if_pos (by omega)]
  rw[e];have hx:=size_extract t a (a+0+1) (by omega) hs;apply zfa
  ·rw[zak];omega
  ·intro i hi;rw[zak]at hi;obtain rfl:i=0:=by omega
   rw[zcu _ (by omega),zct t a _ 0 (by omega) hs];simp only[qe];omega
 |m+1,M,hd,h0,hM,hs=>by
  obtain⟨M',rfl⟩:∃ M',M=M'+1:=⟨M-1,by omega⟩;have ih:=zns t a m M' (fun j hj=>hd j (by omega)) (fun _=>h0 (by omega)) (by omega) (by omega);have h1:=hd (m+1) (by omega);have hp:=znj t a (m+1) (fun j hj=>(hd j (by omega)).1) (by omega) (h0 (by omega));have hv:dVal t a (m+1+1)=dVal t a (m+1)*10+(bAt t (a+(m+1))-48):=rfl;have e1:(dVal t a (m+1+1)).toNat / 10=(dVal t a (m+1)).toNat:=by omega
  have e2:48+(dVal t a (m+1+1)).toNat % 10=(bAt t (a+(m+1))).toNat:=by omega
  rw[decS,if_neg (by omega),e1,e2,ih];have hx:=size_extract t a (a+m+1) (by omega) (by omega);have hy:=size_extract t a (a+(m+1)+1) (by omega) (by omega);apply zfa
  ·rw[xe,zak];omega
  ·intro i hi;rw[xe,zak]at hi;rw[zct t a _ i (by omega) (by omega)];by_cases h:i<m+1
   ·rw[zep _ _ _ (by omega),zct t a _ i (by omega) (by omega)]
   ·obtain rfl:i=(t.extract a (a+m+1)).size+0:=by omega
    rw[zhl,zcu _ (by omega),hx];rw[show a+(a+m+1-a+0)=a+(m+1) by omega];omega
theorem zld (p:Int->Bool)(s:ByteArray)(hp:p (-1)=false):∀ (m e:Nat),s.size<=e+m->p (bAt s (zaz p s m e))=false
 |0,e,h=>by rw[zaz,zd0 s e (by omega)];exact hp
 |m+1,e,h=>by
  rw[zaz];split
  ·exact zld p s hp m (e+1) (by omega)
  ·rename_i hq;simpa using hq
theorem zlg (p:Int->Bool)(s:ByteArray):∀ (d a k:Nat),k=a+d->k<=s.size->(∀ i,a<=i->i<k->p (bAt s i)=true)->p (bAt s k)=false->zaz p s (s.size-a) a=k
 |0,a,k,h,hk,ha,hn=>by
  obtain rfl:k=a:=by omega
  exact zlf p s _ k rfl hn
 |d+1,a,k,h,hk,ha,hn=>by
  rw[zle p s _ a rfl (by omega) (ha a (by omega) (by omega))];exact zlg p s d (a+1) k (by omega) hk (fun i h1 h2=>ha i (by omega) h2) hn
theorem zzf {s:ByteArray}{a e:Nat}{n:Int}(h:pDig s a=some (n,e)):a<e/\e<=s.size/\(∀ i,a<=i->i<e->isD (bAt s i)=true)/\isD (bAt s e)=false/\e-a<=16/\(1<e-a->bAt s a≠48)/\n=dVal s a (e-a):=by
 have hbd:=zgt h;unfold pDig at h;simp only at h;obtain⟨E,hE⟩:∃ E,E=zaz isD s (s.size-a) a:=⟨_,rfl⟩;rw[<- hE]at h;split at h
 ·cases h
 ·rename_i hc;simp only[xp,xz]at h;obtain⟨rfl,rfl⟩:=h;refine⟨hbd.1,hbd.2.1,fun i h1 h2=>zfm isD s (s.size-a) a i h1 (by rw[<- hE];exact h2),?_,by omega,fun h1 h2=>hc (.inr (.inr ⟨h1,h2⟩)),rfl⟩;rw[hE];exact zld isD s rfl _ _ (by omega)
theorem zzg {s:ByteArray}{a e:Nat}(h1:a<e)(h2:e<=s.size)(h3:∀ i,a<=i->i<e->isD (bAt s i)=true)(h4:isD (bAt s e)=false)(h5:e-a<=16)(h6:1<e-a->bAt s a≠48):pDig s a=some (dVal s a (e-a),e):=by
 have hE:=zlg isD s (e-a) a e (by omega) h2 h3 h4;exact zk2 s a e hE.symm (by rintro (h|h|h);omega;omega;exact h6 h.1 h.2)
theorem zkn {b:Int}(h:isD b=true):48<=b/\b<=57:=by simpa[isD]using h
theorem zxy {b:Int}(h:48<=b/\b<=57):isD b=true:=by simpa[isD]using h
section
open Go.RowKit
structure Val where
 tag:Nat
 n:Int
 s:ByteArray
 vs:List Val
def Val.num (x:Int):Val:=⟨0,x,xf,[]⟩
def Val.str (s:ByteArray):Val:=⟨1,0,s,[]⟩
def Val.cho (i:Nat):Val:=⟨2,i,xf,[]⟩
def Val.lst (vs:List Val):Val:=⟨3,0,xf,vs⟩
def Val.non:Val:=⟨4,0,xf,[]⟩
def Val.som (v:Val):Val:=⟨5,0,xf,[v]⟩
def Val.rcd (vs:List Val):Val:=⟨6,0,xf,vs⟩
def Val.hd (v:Val):Val:=v.vs.headD Val.non
def At (d:ByteArray)(j:Nat)(x:ByteArray):Prop:=j+x.size<=d.size/\∀ i,i<x.size->bAt d (j+i)=bAt x i
theorem At.app {d x y:ByteArray}{j:Nat}:At d j (x++y)↔At d j x/\At d (j+x.size) y:=by
 unfold At;rw[xe];constructor
 ·rintro ⟨h1,h2⟩;refine⟨⟨by omega,fun i hi=>?_⟩,⟨by omega,fun i hi=>?_⟩⟩
  ·rw[h2 i (by omega),zep _ _ _ hi]
  ·rw[show j+x.size+i=j+(x.size+i) by omega,h2 _ (by omega),zhl]
 ·rintro ⟨⟨h1,h2⟩,h3,h4⟩;refine⟨by omega,fun i hi=>?_⟩;by_cases hx:i<x.size
  ·rw[h2 i hx,zep _ _ _ hx]
  ·obtain⟨m,rfl⟩:∃ m,i=x.size+m:=⟨i-x.size,by omega⟩;rw[zhl,<- h4 m (by omega)];congr 1;omega
theorem At.one {d:ByteArray}{j b:Nat}(hb:b<256):At d j (oneB b)↔bAt d j=b:=by
 unfold At;rw[zak];constructor
 ·rintro ⟨_,h⟩;have:=h 0 (by omega);rw[zcu b hb]at this;exact this
 ·intro h;refine⟨by have:=zaw (s:=d) (i:=j) (by omega);omega,fun i hi=>?_⟩;obtain rfl:i=0:=by omega
  rw[zcu b hb];exact h
theorem At.ext {d x:ByteArray}{j:Nat}(h:At d j x):d.extract j (j+x.size)=x:=by
 have hs:=size_extract d j (j+x.size) (by omega) h.1;refine zfa (by omega) (fun i hi=>?_);rw[zct _ _ _ _ (by omega) h.1,h.2 i (by omega)]
theorem At.of {d:ByteArray}{j k:Nat}(h1:j<=k)(h2:k<=d.size):At d j (d.extract j k):=by
 have hs:=size_extract d j k h1 h2;exact⟨by omega,fun i hi=>by rw[zct _ _ _ _ (by omega) h2]⟩
theorem At.le {d x:ByteArray}{j:Nat}(h:At d j x):j+x.size<=d.size:=h.1
theorem At.self (d:ByteArray):At d 0 d:=⟨by omega,fun i hi=>by rw[qd]⟩
def catB:List ByteArray->ByteArray
 |[]=>xf
 |x::xs=>x++catB xs
theorem zjy:∀ (m:Nat) (acc:ByteArray) (u:Nat),codU m acc u=acc++codU m xf u
 |0,acc,u=>by simp[codU]
 |m+1,acc,u=>by
  rw[codU,codU];split
  ·rw[zjy m (acc++_),zjy m (xf++_)];simp[qi]
  ·simp
theorem zhq {m u:Nat}(h:u<128):codU m xf u=oneB u:=by
 cases m with
 |zero=>simp[codU]
 |succ m=>rw[codU,if_neg (by omega)];simp
theorem zjz {m u:Nat}(h:128<=u):codU (m+1) xf u=oneB (u % 128+128)++codU m xf (u / 128):=by
 rw[codU,if_pos h,zjy];simp
theorem yaec {d:ByteArray}{a:Nat}:∀ (m m' k u x U:Nat),U<128 ^ (m+1)->U<128 ^ (m'+1)->(0<k->U≠0)->At d (a+k) (codU m' xf U) ->
  uAtL d a (m+1) k u x=some (u+U*x,a+k+(codU m' xf U).size):=by
 intro m
 induction m with
 |zero =>
  intro m' k u x U h1 h2 h3 h4;have hU:U<128:=by simpa using h1
  rw[uAtL];rw[zhq hU]at h4 ⊢;rw[At.one (by omega)]at h4;rw[h4,if_neg (by omega),if_pos (by omega),zak];simp
 |succ m ih =>
  intro m' k u x U h1 h2 h3 h4;rw[uAtL];by_cases hU:U<128
  ·rw[zhq hU]at h4 ⊢;rw[At.one (by omega)]at h4;rw[h4,if_neg (by omega),if_pos (by omega),zak];simp
  ·cases m' with
   |zero=>simp at h2;omega
   |succ m' =>
    rw[zjz (by omega)]at h4 ⊢;rw[At.app,At.one (by omega),zak]at h4;obtain⟨h5,h6⟩:=h4;rw[h5,if_neg (by omega),if_neg (by omega)];have e1:(((U % 128+128:Nat):Int).toNat-128)=U % 128:=by omega
    rw[e1,ih m' (k+1) _ _ (U / 128) (by rw[xo]at h1;omega) (by rw[xo]at h2;omega) (fun _=>by omega) h6];have e2:U / 128*(x*128)=U / 128*128*x:=by rw[Nat.mul_comm x 128,Nat.mul_assoc]
    have e3:u+U % 128*x+U / 128*(x*128)=u+U*x:=by
     rw[e2,xj,<- Nat.add_mul,show U % 128+U / 128*128=U by omega]
    have e4:a+(k+1)+(codU m' xf (U / 128)).size=a+k+(oneB (U % 128+128)++codU m' xf (U / 128)).size:=by
     rw[xe,zak];omega
    rw[e3,e4]
theorem zsv (n:Int):zdb (zig n)=n:=by
 unfold zig zdb;split<;>split<;>omega
theorem zsp {d:ByteArray}{j:Nat}{n:Int}(h1:-1000000000000000<=n)(h2:n<=1000000000000000)(h:At d j (zcp n)):uAt d j=some (zig n,j+(zcp n).size):=by
 have hz:zig n<128 ^ 8:=by unfold zig;split<;>omega
 have:=yaec (d:=d) (a:=j) 7 8 0 0 1 (zig n) hz (by omega) (by omega) h;unfold uAt;rw[this];simp[zcp]
def datV:Nat->Val->ByteArray
 |0,_=>xf
 |n+1,v =>
  if v.tag=0 then zcp v.n
  else if v.tag=1 then oneB v.s.size++v.s
  else if v.tag=2 then oneB v.n.toNat
  else if v.tag=3 then oneB v.vs.length++catB (v.vs.map (datV n))
  else if v.tag=4 then oneB 0
  else if v.tag=5 then oneB 1++datV n v.hd
  else catB (v.vs.map (datV n))
theorem zj1 (n:Nat)(x:Int):datV (n+1) (.num x)=zcp x:=rfl
theorem zht (n:Nat)(s:ByteArray):datV (n+1) (.str s)=oneB s.size++s:=rfl
theorem zhr (n i:Nat):datV (n+1) (.cho i)=oneB i:=rfl
theorem zge (n:Nat)(vs:List Val):datV (n+1) (.lst vs)=oneB vs.length++catB (vs.map (datV n)):=rfl
theorem zhs (n:Nat):datV (n+1) .non=oneB 0:=rfl
theorem zgf (n:Nat)(v:Val):datV (n+1) (.som v)=oneB 1++datV n v:=rfl
theorem zeg (n:Nat)(vs:List Val):datV (n+1) (.rcd vs)=catB (vs.map (datV n)):=rfl
def zcc:Nat->List ByteArray->ByteArray->ByteArray
 |_,[],t=>t++⟨#[93]⟩
 |k,x::xs,t=>zcc (k+1) xs ((if 0<k then t++⟨#[44]⟩ else t)++x)
def zcb:List (Nat×ByteArray)->ByteArray->ByteArray->ByteArray
 |[],_,t=>t++⟨#[125]⟩
 |p::ps,mk,t=>zcb ps ⟨#[44]⟩ (t++(((mk++oneB p.1)++⟨#[58]⟩)++p.2))
def txtV:Nat->Ty->Val->ByteArray
 |0,_,_=>xf
 |n+1,ty,v =>
  if v.tag=0 then decI v.n
  else if v.tag=1 then quo++v.s++quo
  else if v.tag=2 then oneB (bAt ty.letters v.n.toNat).toNat
  else if v.tag=3 then zcc 0 (v.vs.map (txtV n ty.in)) ⟨#[91]⟩
  else if v.tag=4 then ⟨#[95]⟩
  else if v.tag=5 then txtV n ty.in v.hd
  else zcb ((ty.fields.zip v.vs).map fun p=>(p.1.1,txtV n p.1.2.1 p.2)) ⟨#[123]⟩ xf
theorem zi0 (n:Nat)(ty:Ty)(x:Int):txtV (n+1) ty (.num x)=decI x:=rfl
theorem zg6 (n:Nat)(ty:Ty)(s:ByteArray):txtV (n+1) ty (.str s)=quo++s++quo:=rfl
theorem zdy (n:Nat)(ty:Ty)(i:Nat):txtV (n+1) ty (.cho i)=oneB (bAt ty.letters i).toNat:=rfl
theorem zeb (n:Nat)(ty:Ty)(vs:List Val):txtV (n+1) ty (.lst vs)=zcc 0 (vs.map (txtV n ty.in)) ⟨#[91]⟩:=rfl
theorem zfr (n:Nat)(ty:Ty):txtV (n+1) ty .non=⟨#[95]⟩:=rfl
theorem ze9 (n:Nat)(ty:Ty)(v:Val):txtV (n+1) ty (.som v)=txtV n ty.in v:=rfl
theorem zdh (n:Nat)(ty:Ty)(vs:List Val):txtV (n+1) ty (.rcd vs)=zcb ((ty.fields.zip vs).map fun p=>(p.1.1,txtV n p.1.2.1 p.2)) ⟨#[123]⟩ xf:=rfl
def okV:Nat->Ty->Val->Prop
 |0,_,_=>False
 |n+1,ty,v =>
  (∃ x,v=.num x/\((ty.kind=105/\-2147483648<=x/\x<=2147483647)\/(ty.kind=108/\-1000000000000000<=x/\x<=1000000000000000))) \/
  (∃ s,v=.str s/\ty.kind=115/\s.size<=60/\allS s s.size 0=true) \/
  (∃ i,v=.cho i/\ty.kind=60/\i<ty.letters.size/\i<256) \/
  (∃ vs,v=.lst vs/\ty.kind=91/\vs.length<=16/\∀ v∈vs,okV n ty.in v) \/
  (v=.non/\ty.kind=63) \/
  (∃ u,v=.som u/\ty.kind=63/\okV n ty.in u) \/
  (∃ vs,v=.rcd vs/\ty.kind=123/\ty.fields≠[]/\vs.length=ty.fields.length/\∀ p∈ty.fields.zip vs,okV n p.1.2.1 p.2)
theorem ze0 {n:Nat}{ty:Ty}{x:Int}(h:(ty.kind=105/\-2147483648<=x/\x<=2147483647)\/(ty.kind=108/\-1000000000000000<=x/\x<=1000000000000000)):okV (n+1) ty (.num x):=.inl ⟨x,rfl,h⟩
theorem zkx {n:Nat}{ty:Ty}{s:ByteArray}(h:ty.kind=115/\s.size<=60/\allS s s.size 0=true):okV (n+1) ty (.str s):=.inr (.inl ⟨s,rfl,h⟩)
theorem zkv {n:Nat}{ty:Ty}{i:Nat}(h:ty.kind=60/\i<ty.letters.size/\i<256):okV (n+1) ty (.cho i):=.inr (.inr (.inl ⟨i,rfl,h⟩))
theorem zkw {n:Nat}{ty:Ty}{vs:List Val}(h:ty.kind=91/\vs.length<=16/\∀ v∈vs,okV n ty.in v):okV (n+1) ty (.lst vs):=.inr (.inr (.inr (.inl ⟨vs,rfl,h⟩)))
theorem zps {n:Nat}{ty:Ty}(h:ty.kind=63):okV (n+1) ty .non:=.inr (.inr (.inr (.inr (.inl ⟨rfl,h⟩))))
theorem zpt {n:Nat}{ty:Ty}{v:Val}(h:ty.kind=63/\okV n ty.in v):okV (n+1) ty (.som v):=.inr (.inr (.inr (.inr (.inr (.inl ⟨v,rfl,h⟩)))))
theorem zgr {n:Nat}{ty:Ty}{vs:List Val}(h:ty.kind=123/\ty.fields≠[]/\vs.length=ty.fields.length/\∀ p∈ty.fields.zip vs,okV n p.1.2.1 p.2):okV (n+1) ty (.rcd vs):=.inr (.inr (.inr (.inr (.inr (.inr ⟨vs,rfl,h⟩)))))
theorem zmp {d s:ByteArray}:∀ (m j i:Nat),(∀ k,k<m->bAt d (j+k)=bAt s (i+k))->allS d m j=allS s m i
 |0,j,i,h=>rfl
 |m+1,j,i,h=>by
  have h0:=h 0 (by omega);simp only[qe]at h0;rw[allS,allS,h0,zmp m (j+1) (i+1) (fun k hk=>by have:=h (k+1) (by omega);rw[show j+1+k=j+(k+1) by omega,show i+1+k=i+(k+1) by omega];exact this)]
theorem zv3 {d s:ByteArray}{j:Nat}(h1:s.size<=60)(h2:allS s s.size 0=true)(h:At d j (oneB s.size++s)):zca d j=some (quo++s++quo,j+(oneB s.size++s).size):=by
 rw[At.app,At.one (by omega),zak]at h;obtain⟨h3,h4⟩:=h;unfold zca;rw[h3,if_neg (by omega),xh,h4.ext,if_pos,xe,zak]
 ·congr 2;omega
 ·rw[<- h2];exact zmp _ _ _ (fun k hk=>by rw[h4.2 k hk,qd])
theorem znp {d:ByteArray}{f:Nat->Option (ByteArray×Nat)}{dv tv:Val->ByteArray}:∀ (vs:List Val) (k fr:Nat) (t:ByteArray),(∀ v∈vs,∀ j,At d j (dv v)->f j=some (tv v,j+(dv v).size)) ->
  At d fr (catB (vs.map dv))->zb0 f vs.length k fr t=some (zcc k (vs.map tv) t,fr+(catB (vs.map dv)).size)
 |[],k,fr,t,hf,h=>by simp[zb0,zcc,catB]
 |v::vs,k,fr,t,hf,h=>by
  simp only[xq,catB]at h ⊢;rw[At.app]at h;rw[List.length_cons,zb0,hf v (by simp) fr h.1];simp only;rw[znp vs (k+1) (fr+(dv v).size) _ (fun v hv=>hf v (by simp[hv])) h.2,zcc,xe,xj]
theorem znm {d:ByteArray}{f:Ty->Nat->Option (ByteArray×Nat)}{dv:Val->ByteArray}{tv:Ty->Val->ByteArray}:∀ (fs:List (Nat×Ty×ByteArray)) (vs:List Val) (mk:ByteArray) (fr:Nat) (t:ByteArray),vs.length=fs.length ->
  (∀ p∈fs.zip vs,∀ j,At d j (dv p.2)->f p.1.2.1 j=some (tv p.1.2.1 p.2,j+(dv p.2).size)) ->
  At d fr (catB (vs.map dv))->zbp f fs mk fr t=some (zcb ((fs.zip vs).map fun p=>(p.1.1,tv p.1.2.1 p.2)) mk t,fr+(catB (vs.map dv)).size)
 |[],[],mk,fr,t,hl,hf,h=>by simp[zbp,zcb,catB]
 |[],v::vs,mk,fr,t,hl,hf,h=>by simp at hl
 |g::fs,[],mk,fr,t,hl,hf,h=>by simp at hl
 |g::fs,v::vs,mk,fr,t,hl,hf,h=>by
  simp only[xq,catB]at h ⊢;rw[At.app]at h;rw[zbp,hf (g,v) (by simp) fr h.1];simp only;rw[znm fs vs _ (fr+(dv v).size) _ (by simpa using hl) (fun p hp=>hf p (by simp[hp])) h.2,xe,xj];simp only[List.zip_cons_cons,xq,zcb]
theorem zhv {d:ByteArray}:∀ (n:Nat) (ty:Ty) (v:Val) (j:Nat),okV n ty v->At d j (datV n v)->dec d n ty j=some (txtV n ty v,j+(datV n v).size)
 |0,ty,v,j,hv,h=>hv.elim
 |n+1,ty,v,j,hv,h=>by
  have ih:=zhv (d:=d) n;rcases hv with⟨x,rfl,hv⟩|⟨s,rfl,hv⟩|⟨i,rfl,hv⟩|⟨vs,rfl,hv⟩|⟨rfl,hv⟩|⟨v,rfl,hv⟩|⟨vs,rfl,hv⟩
  ·rw[zj1]at h ⊢;rw[zi0];rcases hv with⟨hk,h1,h2⟩|⟨hk,h1,h2⟩
   ·rw[dec,if_pos hk];unfold zbe;rw[zsp (by omega) (by omega) h];simp only[zsv];rw[if_neg (by omega)]
   ·rw[dec,if_neg (by omega),if_pos hk];unfold zbe;rw[zsp (by omega) (by omega) h];simp only[zsv];rw[if_neg (by omega)]
  ·rw[zht]at h ⊢;rw[zg6];rw[dec,if_neg (by omega),if_neg (by omega),if_pos hv.1,zv3 hv.2.1 hv.2.2 h]
  ·rw[zhr]at h ⊢;rw[zdy];rw[At.one hv.2.2]at h;have:=zee ty.letters i hv.2.1;rw[dec,if_neg (by omega),if_neg (by omega),if_neg (by omega),if_pos hv.1];unfold zcv;rw[h,xh,if_neg (by omega),zak]
  ·rw[zge]at h ⊢;rw[zeb];rw[At.app,At.one (by omega),zak]at h;rw[dec,if_neg (by omega),if_neg (by omega),if_neg (by omega),if_neg (by omega),if_pos hv.1];unfold zdl;rw[h.1,if_neg (by omega),xh,znp (dv:=datV n) (tv:=txtV n ty.in) vs 0 (j+1) _ (fun v hv' j h=>ih ty.in v j (hv.2.2 v hv') h) h.2,xe,zak,xj]
  ·rw[zhs]at h ⊢;rw[zfr];rw[At.one (by omega)]at h;rw[dec,if_neg (by omega),if_neg (by omega),if_neg (by omega),if_neg (by omega),if_neg (by omega),if_pos hv];unfold zb9;rw[h,if_pos (by omega),zak]
  ·rw[zgf]at h ⊢;rw[ze9];rw[At.app,At.one (by omega),zak]at h;rw[dec,if_neg (by omega),if_neg (by omega),if_neg (by omega),if_neg (by omega),if_neg (by omega),if_pos hv.1];unfold zb9;rw[h.1,if_neg (by omega),if_pos (by omega),ih ty.in v _ hv.2 h.2,xe,zak,xj]
  ·rw[zeg]at h ⊢;rw[zdh];rw[dec,if_neg (by omega),if_neg (by omega),if_neg (by omega),if_neg (by omega),if_neg (by omega),if_neg (by omega),if_pos ⟨hv.1,hv.2.1⟩];exact znm (dv:=datV n) (tv:=txtV n) ty.fields vs _ j _ hv.2.2.1 (fun p hp j h=>ih p.1.2.1 p.2 j (hv.2.2.2 p hp) h) h
end
section
open Go.RowKit
end
section
open Go.RowKit
end
theorem zpz {pt:Nat->Option (Ty×Nat)}{ef:Ty->Nat->Option (ByteArray×Nat)}{s:ByteArray}{i k:Nat}{f:Nat×Ty×ByteArray}(h:zar pt ef s i=some (f,k)):f.1<256:=by
 unfold zar at h;have:=zeq s i;split at h
 ·split at h
  ·cases h
  ·split at h
   ·split at h
    ·cases h
    ·simp only[xp,xz]at h;rw[<- h.1];show (bAt s i).toNat<256;omega
   ·simp only[xp,xz]at h;rw[<- h.1];show (bAt s i).toNat<256;omega
 ·cases h
end Go.Proofs.YtkkekopomiehlabGreatDoor
