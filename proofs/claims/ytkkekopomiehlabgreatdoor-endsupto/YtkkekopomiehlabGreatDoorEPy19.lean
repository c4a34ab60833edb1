import Derived.Test.YtkkekopomiehlabGreatDoorESq1
set_option linter.unusedVariables false
set_option linter.unusedSimpArgs false
set_option maxHeartbeats 40000000
set_option maxRecDepth 4000
open List renaming getD_eq_getElem?_getD->xe,getElem?_eq_some_iff->xf,getElem?_eq_getElem->xg,getElem?_map->xj,mem_of_getElem?->xm,replicate->xq,getElem?_set_self->xu,length_map->xz,set_set->qh,length_cons->qi
open Int renaming toNat_natCast->xh,emod_nonneg->qd,toNat_of_nonneg->qf,le_refl->qj
open Go.World.ownsRow renaming frozenAt->xo,stored->xp,lt->xv,cellAt->qm
open Bool renaming and_eq_true->xy
open Go.World renaming news_of_block->qe,ownsRow_made->qg
open Go.Value renaming oneCell'->qk
open Nat renaming zero_le->qn,le_refl->qo
open Option.some renaming inj->qp
namespace Go.Proofs.YtkkekopomiehlabGreatDoor
section
open Go.RowKit
theorem zgp {k:Int}{n:Nat}(h:numB k n=true):∃ i:Nat,k=i/\i<n:=by
 unfold numB at h;simp at h;exact⟨k.toNat,by omega,by omega⟩
def tskF (t:TskD):List Value:=[.int .i64 t.s,.int .i64 t.z,.int .i64 t.b,.int .i64 t.r]
def lst0 (vs:List SvcD):List TskD:=(List.range vs.length).map fun (s:Nat)=>⟨(s:Nat),(vs.getD s ⟨0,0,0,[]⟩).size,0,(vs.getD s ⟨0,0,0,[]⟩).now⟩
def tskS (l:List TskD)(m:Int×Int):TskD:={ l.getD m.1.toNat tsk0 with b:=(l.getD m.1.toNat tsk0).r,r:=m.2 }
def lstS (l:List TskD)(m:Int×Int):List TskD:=l.set m.1.toNat (tskS l m)
def lstN (l:List TskD)(ms:List (Int×Int)):List TskD:=ms.foldl lstS l
def tskN (l:List TskD):List (Int×Int)->List TskD
 |[]=>[]
 |m::ms=>tskS l m::tskN (lstS l m) ms
theorem zsg (l:List TskD)(a b:List (Int×Int)):tskN l (a++b)=tskN l a++tskN (lstN l a) b:=by
 induction a generalizing l with
 |nil=>rfl
 |cons m a ih=>show tskS l m::tskN (lstS l m) (a++b)=_;rw[ih];rfl
theorem zlx {l:List TskD}{ms:List (Int×Int)}{j:Nat}{m:Int×Int}(h:ms[j]?=some m):tskN l (ms.take (j+1))=tskN l (ms.take j)++[tskS (lstN l (ms.take j)) m]/\lstN l (ms.take (j+1))=lstS (lstN l (ms.take j)) m:=by
 rw[List.take_add_one,h];show tskN l (ms.take j++[m])=_/\lstN l (ms.take j++[m])=_;rw[zsg];refine⟨rfl,?_⟩;unfold lstN;rw[List.foldl_append];rfl
theorem zyd (l:List TskD)(ms:List (Int×Int)):(lstN l ms).length=l.length:=by
 induction ms generalizing l with
 |nil=>rfl
 |cons m ms ih=>show (lstN (lstS l m) ms).length=_;rw[ih];simp[lstS]
theorem zg5 (l:List TskD)(ms:List (Int×Int)):(tskN l ms).length=ms.length:=by
 induction ms generalizing l with
 |nil=>rfl
 |cons m ms ih=>show (tskS l m::tskN (lstS l m) ms).length=_;rw[qi,ih,qi]
theorem zkp {vs:List SvcD}{s:Nat}{v:SvcD}(h:vs[s]?=some v):(lst0 vs)[s]?=some ⟨s,v.size,0,v.now⟩:=by
 unfold lst0;rw[xj,List.getElem?_range (xf.1 h).1];show some (⟨(s:Int),(vs.getD s ⟨0,0,0,[]⟩).size,0,(vs.getD s ⟨0,0,0,[]⟩).now⟩:TskD)=_;rw[xe,h];rfl
theorem zpu {w:World}{base g n cl x:Nat}{l:List TskD}{q:TskD}(h:w.ownsRow base 303 4 (.slice (some ⟨g,0,none⟩) n cl) n (l.flatMap tskF))(hq:l[x]?=some q)(hx:x<n):w.cell? ⟨g,x*4,none⟩=some (.int .i64 q.s)/\w.cell? ⟨g,x*4+1,none⟩=some (.int .i64 q.z)/\w.cell? ⟨g,x*4+2,none⟩=some (.int .i64 q.b)/\w.cell? ⟨g,x*4+3,none⟩=some (.int .i64 q.r):=by
 have hcl:=fun (z:Nat) (hz:z<4)=>qm h (x*4+z) (by omega);exact⟨(hcl 0 (by omega)).trans (za2 (f:=tskF) (k:=4) (fun _=>rfl) hq (by omega)),(hcl 1 (by omega)).trans (za2 (f:=tskF) (k:=4) (fun _=>rfl) hq (by omega)),(hcl 2 (by omega)).trans (za2 (f:=tskF) (k:=4) (fun _=>rfl) hq (by omega)),(hcl 3 (by omega)).trans (za2 (f:=tskF) (k:=4) (fun _=>rfl) hq (by omega))⟩
theorem nw3 {W:World}{z:Nat}(hz:W.heap.size=z)(a b c:Obj):(((W.alloc a).alloc b).alloc c).heap[z+2]?=some c:=by
 have:=heap_alloc_new ((W.alloc a).alloc b) c;rw[show ((W.alloc a).alloc b).heap.size=z+2 by simp[hz]]at this;exact this
theorem Chg.set4 {S:Nat->Prop}{a w:World}(h:Chg S a w){z k:Nat}(hz:S z\/a.heap.size<=z)(v0 v1 v2 v3:Value):Chg S a ((((w.setCell ⟨z,k,none⟩ v0).setCell ⟨z,k+1,none⟩ v1).setCell ⟨z,k+2,none⟩ v2).setCell ⟨z,k+3,none⟩ v3) :=
 (((h.set (p:=⟨z,k,none⟩) hz v0).set (p:=⟨z,k+1,none⟩) hz v1).set (p:=⟨z,k+2,none⟩) hz v2).set (p:=⟨z,k+3,none⟩) hz v3
theorem zzc {w:World}{base g n cl x:Nat}{l:List TskD}{q y:TskD}(h:w.ownsRow base 303 4 (.slice (some ⟨g,0,none⟩) n cl) n (l.flatMap tskF))(hq:l[x]?=some q):((((w.setCell ⟨g,x*4,none⟩ (.int .i64 y.s)).setCell ⟨g,x*4+1,none⟩ (.int .i64 y.z)).setCell ⟨g,x*4+2,none⟩ (.int .i64 y.b)).setCell ⟨g,x*4+3,none⟩ (.int .i64 y.r)).ownsRow base 303 4 (.slice (some ⟨g,0,none⟩) n cl) n ((l.set x y).flatMap tskF):=by
 have hx:=(xf.1 hq).1;have s1:=(xp h (x*4) (.int .i64 y.s)).1;have e1:=zeh (f:=tskF) (k:=4) (fun _=>rfl) hq (j:=0) (u:=.int .i64 y.s) (y:=⟨y.s,q.z,q.b,q.r⟩) (by omega) rfl;rw[Nat.add_zero]at e1;rw[e1]at s1;have s2:=(xp s1 (x*4+1) (.int .i64 y.z)).1;rw[zeh (f:=tskF) (k:=4) (fun _=>rfl) (x:=⟨y.s,q.z,q.b,q.r⟩) (by rw[xu hx]) (j:=1) (u:=.int .i64 y.z) (y:=⟨y.s,y.z,q.b,q.r⟩) (by omega) rfl,qh]at s2;have s3:=(xp s2 (x*4+2) (.int .i64 y.b)).1;rw[zeh (f:=tskF) (k:=4) (fun _=>rfl) (x:=⟨y.s,y.z,q.b,q.r⟩) (by rw[xu hx]) (j:=2) (u:=.int .i64 y.b) (y:=⟨y.s,y.z,y.b,q.r⟩) (by omega) rfl,qh]at s3;have s4:=(xp s3 (x*4+3) (.int .i64 y.r)).1;rw[zeh (f:=tskF) (k:=4) (fun _=>rfl) (x:=⟨y.s,y.z,y.b,q.r⟩) (by rw[xu hx]) (j:=3) (u:=.int .i64 y.r) (y:=y) (by omega) rfl,qh]at s4;exact s4
theorem Tryz.infoTskK:(Tryz.prog.info? 303).map (fun i=>(i.zero,i.size,i.bytes))=some (some (.agg #[.int .i64 0,.int .i64 0,.int .i64 0,.int .i64 0]),4,32):=by kernel_rfl
theorem yadj (vs:List SvcD)(ms:List (Int×Int))(w:World)(va ma:Option Addr)(vc mc:Nat)(hv:SvcsAt (RelSl PinSl) w va vs)(hm:MvsAt w ma ms)(hvl:vs.length<=3)(hml:ms.length<=200)(hok:∀ m∈ms,numB m.1 vs.length=true) :
  Calls Tryz.prog 199 #[.slice va vs.length vc,.slice ma ms.length mc] w fun e W=>∃ g cap,e=.returned (.slice (some ⟨g,0,none⟩) ms.length cap)/\W.ownsRow w.heap.size 303 4 (.slice (some ⟨g,0,none⟩) ms.length cap) ms.length ((tskN (lst0 vs) ms).flatMap tskF)/\Below w.heap.size w W:=by
 obtain⟨iM,hiM,zM0,zM1,zM2⟩:=info_parts Tryz.infoTskK;obtain⟨n,hn⟩:∃ n,n=vs.length:=⟨_,rfl⟩;obtain⟨k,hk⟩:∃ k,k=ms.length:=⟨_,rfl⟩;rw[<- hn]at hvl hok ⊢;rw[<- hk]at hml ⊢;have HN:=zaa hn;have HK:=zaa hk;have HV:=zaa hv;have HM:=zaa hm;have HOK:=zaa hok;clear hn hk hv hm hok;have O0:=zaa (qg (base:=w.heap.size) (e:=303) (size:=4) w #[] 0 (qo _) (by unfold maxLen;omega) rfl)
 go_enter Tryz.func199,Tryz.ntmps199
 go_wp2_with fail
 go_loopw [5,15] (fun vt vi wr=>∃ i:Nat,i<=n/\vi=.int .i64 i/\wr.ownsRow w.heap.size 303 4 vt i (((lst0 vs).take i).flatMap tskF)/\(∃ g cap,vt=.slice (some ⟨g,0,none⟩) i cap)/\Below w.heap.size w wr) (fun _ i _=>n-(intOf i).toNat)
 case atStart=>exact⟨0,qn _,rfl,by simpa using O0.out,⟨_,_,rfl⟩,bel1 _ _⟩
 case round =>
  obtain⟨i,hi,rfl,hown,⟨gl,cl,rfl⟩,hb⟩:=hrel
  rename World=>w5
  have HOWN:=zaa hown;have HB:=zaa hb;have zb:=hb.size;have hx0 := znn i;by_cases hlt:i<n
  ·obtain⟨v,hv⟩:∃ v,vs[i]?=some v:=⟨vs[i]'(by rw[<- HN.out];exact hlt),xg _⟩;obtain⟨b,o,ra,rl,rc,rfl,c0,c1,c2,c3,_⟩:=HV.out i v hv;have c0:=zab hb c0;have c1:=zab hb c1;have c2:=zab hb c2;have c3:=zab hb c3;have lb:=zag c0;have hx1:(i:Int)<(n:Int):=by omega
   have HE:Hid (((lst0 vs).take (i+1)).flatMap tskF=((lst0 vs).take i).flatMap tskF++[.int .i64 (i:Int),.int .i64 v.size,.int .i64 0,.int .i64 v.now]):=zh2 (f:=tskF) (zkp hv);generalize v.size=vz at *;generalize v.now=vn at *;generalize v.want=vw at *;clear hown hb hv
   go_wp2_with (at_builtin;refine wpList_append_lies _ rfl _ _ _ rfl w.heap.size 303 iM _ 4 32 Tryz.underlying139 hiM zM0 zM1 zM2 rfl (by omega) (.slice (some ⟨gl,0,none⟩) i cl) i _ rfl ((HOWN.out.alloc _).alloc _) ⟨w5.heap.size+1,0,none⟩ 1 1 [.int .i64 (i:Int),.int .i64 vz,.int .i64 0,.int .i64 vn] rfl rfl (qe (nw2 _ _ _)) (by simp[qk]) (by omega) (by unfold maxLen;omega) (by omega) (by simp;omega) (w5.heap.size+2) (by simp) ?_;intro g2 cap2 w8 hown2 hgrow2 hat2 hlt2)
   go_roundw
   case rel =>
    refine⟨i+1,by omega,by go_num,by rw[HE.out];exact hown2,⟨_,_,rfl⟩,?_⟩;exact Below.grown ((HB.out.alloc (by omega) _).alloc (by simp;omega) _) hgrow2 (by simp;omega) (fun k hk=>(HOWN.out.lt k hk).1)
   case measure=>simp[intOf];omega
  ·obtain rfl:n=i:=by omega
   have hlen:(lst0 vs).length=n:=by rw[HN.out];simp[lst0]
   have HL:Hid (w5.ownsRow w.heap.size 303 4 (.slice (some ⟨gl,0,none⟩) n cl) n ((lstN (lst0 vs) (ms.take 0)).flatMap tskF)):=by
    have:=hown;rw[List.take_of_length_le (by omega)]at this;exact this
   have O1:=zaa (qg (base:=w5.heap.size) (e:=303) (size:=4) w5 #[] 0 (qo _) (by unfold maxLen;omega) rfl);have lgl:=(xv hown gl rfl);clear hown hb
   go_wp2_with fail
   go_loopw [8,33] (fun vt vi wr=>∃ j:Nat,j<=k/\vi=.int .i64 j/\wr.ownsRow w.heap.size 303 4 (.slice (some ⟨gl,0,none⟩) n cl) n ((lstN (lst0 vs) (ms.take j)).flatMap tskF)/\wr.ownsRow w5.heap.size 303 4 vt j ((tskN (lst0 vs) (ms.take j)).flatMap tskF)/\(∃ g cap,vt=.slice (some ⟨g,0,none⟩) j cap)/\Below w.heap.size w wr/\w5.heap.size<=wr.heap.size) (fun _ j _=>k-(intOf j).toNat)
   case atStart=>exact⟨0,qn _,rfl,HL.out.alloc _,by simpa[tskN]using O1.out,⟨_,_,rfl⟩,HB.out.alloc (by omega) _,by simp⟩
   case round =>
    obtain⟨j,hj,rfl,hlast,htask,⟨gt,ct,rfl⟩,hb,hz⟩:=hrel
    rename World=>w6
    have HLA:=zaa hlast;have HTA:=zaa htask;have HB6:=zaa hb;have hy0 := znn j;by_cases hlt2:j<k
    ·obtain⟨mv,hmv⟩:∃ mv,ms[j]?=some mv:=⟨ms[j]'(by rw[<- HK.out];exact hlt2),xg _⟩;obtain⟨bm,om,rfl,m0,m1⟩:=HM.out j mv hmv;have m0:=zab hb m0;have m1:=zab hb m1;have lbm:=zag m0;obtain⟨x,hx,hxn⟩:=zgp (HOK.out mv (xm hmv));obtain⟨HT1,HT2⟩:=zlx (l:=lst0 vs) hmv;have HT1:=zaa HT1;have HT2:=zaa HT2;have hll:(lstN (lst0 vs) (ms.take j)).length=n:=by rw[zyd];exact hlen
     obtain⟨q,hq⟩:∃ q,(lstN (lst0 vs) (ms.take j))[x]?=some q:=⟨(lstN (lst0 vs) (ms.take j))[x]'(by omega),xg _⟩;obtain⟨d0,d1,d2,d3⟩:=zpu hlast hq (by omega);have z0:=xo hlast (x*4);have z1:=xo hlast (x*4+1);have z2:=xo hlast (x*4+2);have z3:=xo hlast (x*4+3);have n1:=fun W=>za5 (x:Int) (n:Int) W;rw[show numB (x:Int) (n:Int)=true by unfold numB;simp;omega]at n1;have hx0':(0:Int)<=(x:Int):=by omega
     have hx1':(x:Int)<(n:Int):=by omega
     have hy1:(j:Int)<(k:Int):=by omega
     obtain⟨mx,my⟩:=mv;simp only at hx m0 m1;subst hx;obtain⟨qs,qz,qb,qr⟩:=q;simp only at d0 d1 d2 d3;have lg6:=zag d0;have hqg:(lstN (lst0 vs) (ms.take j)).getD ((x:Int),my).1.toNat tsk0=⟨qs,qz,qb,qr⟩:=by
      show (lstN (lst0 vs) (ms.take j)).getD (x:Int).toNat tsk0=_;rw[xh,xe,hq];rfl
     have hS:tskS (lstN (lst0 vs) (ms.take j)) ((x:Int),my)=⟨qs,qz,qr,my⟩:=by unfold tskS;rw[hqg]
     have HS:=zaa hS;have hSS:lstS (lstN (lst0 vs) (ms.take j)) ((x:Int),my)=(lstN (lst0 vs) (ms.take j)).set x ⟨qs,qz,qr,my⟩:=by
      unfold lstS;rw[hS];show List.set _ (x:Int).toNat _=_;rw[xh]
     have HSS:=zaa hSS;have HL4:=zaa (zzc (y:=⟨qs,qz,qr,my⟩) hlast hq);have X4:=zaa ((Chg.refl (·= gl) w6).set4 (z:=gl) (k:=x*4) (.inl rfl) (.int .i64 qs) (.int .i64 qz) (.int .i64 qr) (.int .i64 my));have HT4:=zaa (X4.out.own htask (fun b hb e=>by have:=(xv htask b hb).1;omega));have HB4:=zaa ((((HB6.out.setCell (p:=⟨gl,x*4,none⟩) lgl.1 (.int .i64 qs)).setCell (p:=⟨gl,x*4+1,none⟩) lgl.1 (.int .i64 qz)).setCell (p:=⟨gl,x*4+2,none⟩) lgl.1 (.int .i64 qr)).setCell (p:=⟨gl,x*4+3,none⟩) lgl.1 (.int .i64 my));have hz4:Hid (((((w6.setCell ⟨gl,x*4,none⟩ (.int .i64 qs)).setCell ⟨gl,x*4+1,none⟩ (.int .i64 qz)).setCell ⟨gl,x*4+2,none⟩ (.int .i64 qr)).setCell ⟨gl,x*4+3,none⟩ (.int .i64 my)).heap.size=w6.heap.size):=by show _=_;simp[World.setCell]
     clear hlast htask hb hmv hll hq hlen hqg hS hSS
     go_wp2_with (first
      |(go_at_call 178;refine(n1 _).mono ?_;rintro e _ ⟨rfl,rfl⟩)
      |(at_builtin;refine wpList_append_lies _ rfl _ _ _ rfl w5.heap.size 303 iM _ 4 32 Tryz.underlying139 hiM zM0 zM1 zM2 rfl (by omega) (.slice (some ⟨gt,0,none⟩) j ct) j _ rfl (((HT4.out.alloc _).alloc _).alloc _) ⟨w6.heap.size+2,0,none⟩ 1 1 [.int .i64 qs,.int .i64 qz,.int .i64 qr,.int .i64 my] rfl rfl (qe (nw3 hz4.out _ _ _)) (by simp[qk]) (by omega) (by unfold maxLen;omega) (by omega) (by simp;omega) (w6.heap.size+3) (by simp[hz4.out]) ?_;intro g2 cap2 w8 hown2 hgrow2 hat2 hlt3))
     have hne:(Value.slice (some ⟨gt,0,none⟩) j ct).ownBlock≠some gl:=fun e=>by have:=(xv HTA.out gl e).1;omega
     go_roundw
     case rel =>
      refine⟨j+1,by omega,by go_num,?_,?_,⟨_,_,rfl⟩,?_,?_⟩
      ·rw[HT2.out,HSS.out];exact(((HL4.out.alloc _).alloc _).alloc _).kept hgrow2 (.inr (fun e=>hne e.symm))
      ·rw[HT1.out,HS.out,List.flatMap_append];simpa[tskF]using hown2
      ·exact Below.grown (((HB4.out.alloc (by rw[hz4.out];exact HB6.out.size) _).alloc (by simp[hz4.out];have:=HB6.out.size;omega) _).alloc (by simp[hz4.out];have:=HB6.out.size;omega) _) hgrow2 (by simp[hz4.out];have:=HB6.out.size;omega) (fun k hk=>by have:=(HTA.out.lt k hk).1;omega)
      ·have:=hgrow2.size;simp[hz4.out]at this;omega
     case measure=>simp[intOf];omega
    ·obtain rfl:k=j:=by omega
     have HE:Hid (w6.ownsRow w.heap.size 303 4 (.slice (some ⟨gt,0,none⟩) k ct) k ((tskN (lst0 vs) ms).flatMap tskF)):=by
      have:=htask.mono zb;rw[HK.out,List.take_length,<- HK.out]at this;exact this
     clear hlast htask HLA HTA
     go_wp2_with fail
     go_ret;exact⟨gt,ct,rfl,HE.out,HB6.out⟩
end
section
open Go.RowKit
def begP (f:zac)(ms:List (Int×Int)):zad:=⟨0,⟨tskN (lst0 f.vs) ms,rstN f.ts,if ms.length=0 then 3 else 1,0,false,false,0,0,0,false,false,false⟩,[],f.vs.map fun v=>⟨xq v.size.toNat ⟨v.now,0⟩,v.rels⟩,f.ts.map fun k=>⟨k,[]⟩,f.ss⟩
theorem zpf {f:zac}{ms:List (Int×Int)}{s:Nat}{v:SvcD}(hv:f.vs[s]?=some v)(hok:∀ m∈ms,∃ i:Nat,m.1=i):∀ j,j<=ms.length->∃ q,(lstN (lst0 f.vs) (ms.take j))[s]?=some q/\q.s=s/\q.z=v.size/\q.r=hasI v.now ms s j
 |0,_=>⟨_,zkp hv,rfl,rfl,rfl⟩
 |j+1,hj=>by
  obtain⟨m,hm⟩:∃ m,ms[j]?=some m:=⟨ms[j]'(by omega),xg _⟩;obtain⟨q,h1,h2,h3,h4⟩:=zpf hv hok j (by omega);obtain⟨i,hi⟩:=hok m (xm hm);have hs:s<(lstN (lst0 f.vs) (ms.take j)).length:=(xf.1 h1).1;have hg:ms.getD j (-1,0)=m:=by rw[xe,hm];rfl
  rw[(zlx hm).2];unfold lstS;have hh:hasI v.now ms s (j+1)=if m.1=(s:Int) then m.2 else hasI v.now ms s j:=by rw[hasI,hg]
  rw[hh,hi,xh,List.getElem?_set];by_cases e:i=s
  ·subst e;have hq:(lstN (lst0 f.vs) (ms.take j)).getD m.1.toNat tsk0=q:=by rw[hi,xh,xe,h1];rfl
   rw[if_pos rfl,if_pos hs,if_pos rfl];refine⟨_,rfl,?_,?_,?_⟩
   ·unfold tskS;rw[hq];exact h2
   ·unfold tskS;rw[hq];exact h3
   ·rfl
  ·rw[if_neg e,if_neg (by omega)];exact⟨q,h1,h2,h3,h4⟩
theorem zsh {f:zac}{ms:List (Int×Int)}{j:Nat}{m:Int×Int}(hm:ms[j]?=some m):(tskN (lst0 f.vs) ms)[j]?=some (tskS (lstN (lst0 f.vs) (ms.take j)) m):=by
 have hj:=(xf.1 hm).1;have e:ms=ms.take (j+1)++ms.drop (j+1):=(List.take_append_drop _ _).symm;have hl:(tskN (lst0 f.vs) (ms.take j)).length=j:=by rw[zg5,List.length_take];omega
 conv=>lhs;rw[e,zsg,(zlx hm).1]
 rw[List.getElem?_append_left (by simp[hl]),List.getElem?_append_right (by omega),hl,Nat.sub_self];rfl
theorem zhn {f:zac}{ms:List (Int×Int)}{a b:Int}:hasB (begP f ms).vs a b=true↔∃ (s:Nat) (v:SvcD),a=s/\f.vs[s]?=some v/\0<=b/\b<v.size:=by
 rw[zd4];show 0<=a/\a<((f.vs.map fun v=>(⟨xq v.size.toNat ⟨v.now,0⟩,v.rels⟩:SrvD)).length:Int)/\0<=b/\b<(((f.vs.map fun v=>(⟨xq v.size.toNat ⟨v.now,0⟩,v.rels⟩:SrvD)).getD a.toNat srv0).ins.length:Int)↔_;constructor
 ·rintro ⟨h1,h2,h3,h4⟩;rw[xz]at h2;have hv:f.vs[a.toNat]?=some (f.vs[a.toNat]'(by omega)):=xg _;refine⟨a.toNat,_,by omega,hv,h3,?_⟩;rw[xe,xj,hv]at h4;simp at h4;omega
 ·rintro ⟨s,v,rfl,hv,h3,h4⟩;have:=(xf.1 hv).1;rw[xz,xh,xe,xj,hv];refine⟨by omega,by omega,h3,?_⟩;simp;omega
theorem zjl {f:zac}{ms:List (Int×Int)}{s:Nat}{b:Int}{v:SvcD}(hv:f.vs[s]?=some v)(h0:0<=b)(h1:b<v.size):insG (begP f ms).vs s b=⟨v.now,0⟩:=by
 unfold insG;show ((f.vs.map fun v=>(⟨xq v.size.toNat ⟨v.now,0⟩,v.rels⟩:SrvD)).getD (s:Int).toNat srv0).ins.getD b.toNat ins0=_;rw[xh,xe (l:=f.vs.map _),xj,hv];show (xq v.size.toNat (⟨v.now,0⟩:InsD)).getD b.toNat ins0=_;rw[xe,List.getElem?_replicate,if_pos (by omega)];rfl
theorem zjm {f:zac}{ms:List (Int×Int)}(h:Sfe f ms)(W:Nat->Int->Int->RecD->Prop):PInv (zb8 f ms) W (begP f ms)/\Ext (begP f ms):=by
 have ho:=zb3 h.ob;have hsz:∀ (s:Nat) (v:SvcD),f.vs[s]?=some v->1<=v.size/\v.size<=3:=fun s v hv=>by
  have:=ho.svc v (xm hv);unfold svcB numB at this;simp only[xy,decide_eq_true_eq]at this;omega
 have htp:∀ k∈f.ts,0<=k/\k<=6:=fun k hk=>by
  have:zc2 f.ts=true:=by
   have:=h.ob;unfold ordB at this;rw[xy,xy]at this;exact this.1.2
  unfold zc2 at this;rw[xy,List.all_eq_true]at this;have:=this.2 k hk;unfold topB at this;simp at this;omega
 have hrs:=yabp (ts:=f.ts) (M:=6) (by omega) (fun k hk=>(htp k hk).2);have hmv:∀ (j:Nat) (m:Int×Int),ms[j]?=some m->∃ x y:Nat,m=((x:Int),(y:Int))/\x<f.vs.length:=fun j m hm=>by
  have hj:=(xf.1 hm).1;obtain⟨x,y,e,hx,_⟩:=ze3 ho (h.rm j hj);refine⟨x,y,?_,hx⟩;rw[<- e];unfold mvAt;rw[xe,hm];rfl
 have hok:∀ m∈ms,∃ i:Nat,m.1=i:=fun m hm=>by
  obtain⟨j,hj⟩:=List.getElem?_of_mem hm;obtain⟨x,y,rfl,_⟩:=hmv j m hj;exact⟨x,rfl⟩
 have hcfg:∀ (k:Nat) (s:Nat) (v:SvcD),f.vs[s]?=some v->(zb8 f ms).cfg k s=hasI v.now ms s k:=fun k s v hv=>by
  show hasI (nowI f (s:Int).toNat) ms s k=_;rw[xh,zib hv]
 refine⟨⟨⟨?_,fun j t ht=>?_,qj _,by show (0:Int)<=(ms.length:Int);omega,?_,qj _⟩,⟨fun a b hb=>?_,fun q=>absurd q (by show ¬ false=true;simp),fun a b hb=>?_,fun q=>absurd q (by show ¬ false=true;simp),fun m hm=>absurd hm (by show m∉[];simp),fun m hm=>absurd hm (by show m∉[];simp),fun q=>absurd q (by show ¬ false=true;simp),fun m hm=>absurd hm (by show m∉[];simp)⟩,⟨fun t T hT=>?_,fun t T x hT hx=>?_,fun t T x hT hx=>?_⟩⟩,⟨by show 0<=40;omega,fun q=>absurd q (by show ¬ false=true;simp),?_,hrs.2,hrs.1⟩⟩
 ·exact zg5 _ _
 ·have hj:j<ms.length:=by have:=(xf.1 ht).1;rw[show (begP f ms).c.ts=tskN (lst0 f.vs) ms from rfl,zg5]at this;exact this
  obtain⟨m,hm⟩:∃ m,ms[j]?=some m:=⟨ms[j]'hj,xg _⟩;obtain⟨x,y,rfl,hx⟩:=hmv j m hm;obtain⟨v,hv⟩:∃ v,f.vs[x]?=some v:=⟨f.vs[x]'hx,xg _⟩;obtain⟨q,q1,q2,q3,q4⟩:=zpf hv hok j (by omega);have ht':(tskN (lst0 f.vs) ms)[j]?=some t:=ht;rw[zsh hm]at ht';have hq:(lstN (lst0 f.vs) (ms.take j)).getD ((x:Int),(y:Int)).1.toNat tsk0=q:=by
   show List.getD _ (x:Int).toNat _=_;rw[xh,xe,q1];rfl
  obtain rfl:{ q with b:=q.r,r:=(y:Int) }=t:=by
   have:=qp ht';unfold tskS at this;rw[hq]at this;exact this
  have hs:=hsz x v hv;have hg:ms.getD j (-1,0)=((x:Int),(y:Int)):=by rw[xe,hm];rfl
  refine⟨fun i=>?_,by show 1<=q.z;omega,by show q.z<=3;omega,?_,?_,fun s hne=>?_⟩
  ·rw[zhn];show (∃ (s:Nat) (v:SvcD),q.s=s/\_)↔0<=i/\i<q.z;rw[q2,q3];constructor
   ·rintro ⟨s,v',e,hv',h1,h2⟩;obtain rfl:x=s:=by omega
    rw[hv]at hv';cases hv';exact⟨h1,h2⟩
   ·rintro ⟨h1,h2⟩;exact⟨x,v,rfl,hv,h1,h2⟩
  ·show (zb8 f ms).cfg j q.s=q.r;rw[q2,hcfg j x v hv,q4]
  ·show (zb8 f ms).cfg (j+1) q.s=(y:Int);rw[q2,hcfg (j+1) x v hv,hasI,hg,if_pos rfl]
  ·have hne:s≠(x:Int):=by rw[<- q2];exact hne
   show hasI (nowI f s.toNat) ms s (j+1)=hasI (nowI f s.toNat) ms s j;rw[hasI,hg,if_neg (fun e=>hne e.symm)]
 ·show ((if ms.length=0 then (3:Int) else 1)=1/\(0:Int)<(ms.length:Int))\/((if ms.length=0 then (3:Int) else 1)=2/\(0:Int)<0)\/((if ms.length=0 then (3:Int) else 1)=3/\(0:Int)=(ms.length:Int)/\false=false)\/((if ms.length=0 then (3:Int) else 1)=4/\(0:Int)=0/\false=false);split
  ·right;right;left;exact⟨rfl,by omega,rfl⟩
  ·left;exact⟨rfl,by omega⟩
 ·obtain⟨s,v,rfl,hv,h0,h1⟩:=zhn.1 hb;rw[zjl hv h0 h1];left;show v.now=(zb8 f ms).cfg (0:Int).toNat s;rw[show (0:Int).toNat=0 from rfl,hcfg 0 s v hv];rfl
 ·obtain⟨s,v,rfl,hv,h0,h1⟩:=zhn.1 hb;rw[zjl hv h0 h1];exact qj _
 ·have hT':(f.ts.map fun k=>(⟨k,[]⟩:TopD))[t]?=some T:=hT;rw[xj]at hT';cases hk:f.ts[t]? with
  |none=>rw[hk]at hT';cases hT'
  |some k =>
   rw[hk]at hT';obtain rfl:(⟨k,[]⟩:TopD)=T:=by simpa using hT'
   exact⟨(htp k (xm hk)).1,yabo t k hk⟩
 iterate 2
  ·have hT':(f.ts.map fun k=>(⟨k,[]⟩:TopD))[t]?=some T:=hT;rw[xj]at hT';cases hk:f.ts[t]? with
   |none=>rw[hk]at hT';cases hT'
   |some k =>
    rw[hk]at hT';obtain rfl:(⟨k,[]⟩:TopD)=T:=by simpa using hT'
    cases hx
 ·show (0:Int)<=0+rstN f.ts;have:=hrs.1;omega
end
section
open Go.RowKit
def Wrt (f:zac)(t:Nat)(u q:Int)(x:RecD):Prop:=∃ (s a:Nat) (v:SvcD) (ps:List PinD),u=s/\q=a/\f.vs[s]?=some v/\v.rels[a]?=some ps/\numB (pinO ps t).w f.ss.length=true/\x.sc=schO f.ss (pinO ps t).w/\∃ text,zau false x.sc text=(x.da,0)
theorem zql {ps:List PinD}{t:Int}(h:(pinO ps t).w≠-1\/(pinO ps t).r≠-1):pinO ps t∈ps/\(pinO ps t).t=t:=by
 unfold pinO at *;cases hf:ps.find? (fun p=>p.t == t) with
 |none=>rw[hf]at h;simp at h
 |some p =>
  simp only;exact⟨List.mem_of_find?_eq_some hf,by simpa using List.find?_some hf⟩
theorem zgy {ss:List ByteArray}{k:Int}(h:numB k ss.length=true):∃ (i:Nat) (x:ByteArray),k=i/\ss[i]?=some x/\schO ss k=x:=by
 obtain⟨i,rfl,hi⟩:=zgp h;refine⟨i,ss[i],rfl,xg hi,?_⟩;unfold schO;rw[if_pos h,xh,xe,xg hi];rfl
theorem yabr {f:zac}{ms:List (Int×Int)}{P:zad}(hs:Sfe f ms)(h:PInv (zb8 f ms) (Wrt f) P)(hk:P.ts.map TopD.keep=f.ts){t:Nat}{T:TopD}{x:RecD}(hT:P.ts[t]?=some T)(hx:x∈T.recs){s:Nat}{i:Int}(hi:hasB P.vs s i=true){v:SvcD}(hv:f.vs[s]?=some v){a:Nat}{ps:List PinD}(ha:(insG P.vs s i).r=a)(hps:v.rels[a]?=some ps)(hr:numB (pinO ps t).r f.ss.length=true) :
  fitB x.sc (schO f.ss (pinO ps t).r)=true/\∃ text,zau false x.sc text=(x.da,0):=by
 have ho:=zb3 hs.ob;obtain⟨u,q,⟨su,aq,vu,psu,rfl,rfl,hvu,hpu,hwu,hsc,text,hen⟩,hc⟩:=h.read hT hx hi;refine⟨?_,text,hen⟩;have hsl:=(xf.1 hv).1;have hul:=(xf.1 hvu).1;have hkt:f.ts.getD t 0=T.keep:=by
  rw[<- hk,xe,xj,hT];rfl
 have hrel:∀ {s:Nat} {v:SvcD} {k a:Nat},f.vs[s]?=some v->(a:Int)=(zb8 f ms).cfg k s->v.rels.length<=3->a<v.rels.length->∀ {ps:List PinD},v.rels[a]?=some ps->plOf f (hsP f ms k s)=ps:=fun {s v k a} hv he h3 hl {ps} hps=>by
  have e:(zb8 f ms).cfg k s=hasI (nowI f s) ms s k:=by show hasI (nowI f (s:Int).toNat) ms s k=_;rw[xh]
  unfold hsP;rw[<- e,<- he,xh];unfold plOf;rw[show (s*3+a) / 3=s by omega,show (s*3+a) % 3=a by omega,hv];show v.rels.getD a []=ps;rw[xe,hps];rfl
 have p1:=ho.parts (xm hv);have p2:=ho.parts (xm hvu);have hal:=(xf.1 hps).1;have hql:=(xf.1 hpu).1;obtain⟨iw,xw,ew,hxw,esw⟩:=zgy hwu;obtain⟨ir,xr,er,hxr,esr⟩:=zgy hr;obtain⟨m1,m2⟩:=zql (ps:=psu) (t:=t) (.inl (by omega));obtain⟨m3,m4⟩:=zql (ps:=ps) (t:=t) (.inr (by omega));have key:rdB f.ss (pinO psu t) (pinO ps t)=true:=by
  rcases hc with⟨h0,k,k',h1,h2,h3,h4⟩|⟨k,k',h1,h2,h5,h6,h3,h4⟩
  ·rw[ha]at h4;exact hs.meet hul hsl h1 h2 (t:=t) (.inl (by rw[hkt];exact h0)) (by rw[hrel hvu h3 p2.2.1 hql hpu];exact m1) (by rw[hrel hv h4 p1.2.1 hal hps];exact m3) m2 m4
  ·rw[ha]at h4;exact hs.meet hul hsl h1 h2 (t:=t) (.inr ⟨h5,h6⟩) (by rw[hrel hvu h3 p2.2.1 hql hpu];exact m1) (by rw[hrel hv h4 p1.2.1 hal hps];exact m3) m2 m4
 rw[yaaz]at key;have:=key (by omega) (by omega);rw[hsc,esw,esr];rw[ew,er,xh,xh,yada hxw hxr]at this;exact this
end
section
open Go.RowKit
def pckN (c:Int)(n:Nat):Nat:=((if c<0 then -(c+1) else c) % (n:Int)).toNat
theorem zbn (c:Int){n:Nat}(hn:0<n):pckN c n<n:=by
 unfold pckN;have h1:=qd (if c<0 then -(c+1) else c) (show (n:Int)≠0 by omega);have h2:=Int.emod_lt_of_pos (if c<0 then -(c+1) else c) (show (0:Int)<n by omega);omega
theorem zcj (c:Int)(n:Nat)(hc:-9223372036854775808<=c/\c<=9223372036854775807)(hn:0<n)(hn2:n<=2000000)(w:World):Calls Tryz.prog 42 #[.int .i64 c,.int .i64 n] w fun e W=>e=.returned (.int .i64 (pckN c n:Nat))/\w=W:=by
 have hn0:(0:Int)<(n:Int):=by omega
 by_cases h0:c<0
 ·obtain⟨d,hd⟩:∃ d:Int,d=-(c+1):=⟨_,rfl⟩;have hd0:0<=d:=by omega
  have hp:((pckN c n:Nat):Int)=d % (n:Int):=by
   unfold pckN;rw[if_pos h0,<- hd];exact qf (qd _ (by omega))
  rw[hp]
  go_enter Tryz.func42,Tryz.ntmps42
  go_wp2_with fail
  go_ret;refine⟨zck ?_,rfl⟩;rw[<- Int.tmod_eq_emod_of_nonneg hd0,hd,Int.neg_tmod]
 ·have hp:((pckN c n:Nat):Int)=c % (n:Int):=by
   unfold pckN;rw[if_neg h0];exact qf (qd _ (by omega))
  rw[hp];have h0:0<=c:=by omega
  go_enter Tryz.func42,Tryz.ntmps42
  go_wp2_with fail
  go_ret;exact⟨rfl,rfl⟩
end
section
open Go.RowKit
structure zdj where
 ti:Int
 by':Int
 da:ByteArray
structure zav where
 f:zac
 ms:List (Int×Int)
 tale:Bool
 P:zad
 ti:Int
 notes:List zdj
 ab:Bool
def zcx (x:zdj):List Value:=[.int .i64 x.ti,.int .i64 x.by',.string x.da]
structure BookM (w0 w:World)(L:Nat->Nat)(gb r:Nat)(b:zav)(sa ta va ma:Option Addr)(sl sc tl tc vl vc mc:Nat)(nv:Value):Prop where
 row:RowIs w gb 70 [.slice sa sl sc,.slice ta tl tc,.slice va vl vc,.slice ma b.ms.length mc,.bool b.tale,.pointer (some ⟨r,0,none⟩),.int .i64 b.ti,nv,.bool b.ab]
 lb:L gb=0
 run:RunE w L r b.P
 low:∀ k,k<w0.heap.size->L k=0
 bel:Below w0.heap.size w0 w
 flt:FleetAt w0 sa sl sc ta tl tc va vl vc b.f
 mvs:MvsAt w0 ma b.ms
 nts:w.ownsRow w0.heap.size 135 3 nv b.notes.length (b.notes.flatMap zcx)
 ln:∀ k,nv.ownBlock=some k->L k=0/\k≠gb
def BookE (w0 w:World)(L:Nat->Nat)(gb r:Nat)(b:zav):Prop:=∃ sa ta va ma sl sc tl tc vl vc mc nv,BookM w0 w L gb r b sa ta va ma sl sc tl tc vl vc mc nv
section
variable {w0 w W:World}{L:Nat->Nat}{gb r:Nat}{b:zav}{sa ta va ma:Option Addr}{sl sc tl tc vl vc mc:Nat}{nv:Value}
theorem BookM.turn (h:BookM w0 w L gb r b sa ta va ma sl sc tl tc vl vc mc nv){P':zad}(ht:Turn w L r W P'):∃ L',BookM w0 W L' gb r { b with P:=P' } sa ta va ma sl sc tl tc vl vc mc nv:=by
 obtain⟨L',h1,h2,h3⟩:=ht;have hz:=h.bel.size;have hlow:∀ k,k<w0.heap.size->L' k=0:=fun k hk=>(h2 k (by omega)).trans (h.low k hk);refine⟨L',h3.row h.row (by rw[h.lb];simp),(h2 gb h.row.lt).trans h.lb,h1,hlow,?_,h.flt,h.mvs,?_,fun k hk=>?_⟩
 ·exact h.bel.trans (h3.bel hz (fun k hk q=>q (h.low k hk)))
 ·exact h3.own h.nts (fun k hk q=>q ((h.ln k hk).1))
 ·exact⟨(h2 k (xv h.nts k hk).2).trans (h.ln k hk).1,(h.ln k hk).2⟩
theorem BookM.keep (h:BookM w0 w L gb r b sa ta va ma sl sc tl tc vl vc mc nv)(hb:Below w.heap.size w W):BookM w0 W L gb r b sa ta va ma sl sc tl tc vl vc mc nv :=
 ⟨h.row.keep hb,h.lb,h.run.keep hb,h.low,h.bel.trans (hb.mono h.bel.size),h.flt,h.mvs,zas h.nts hb,h.ln⟩
theorem BookE.keep (h:BookE w0 w L gb r b)(hb:Below w.heap.size w W):BookE w0 W L gb r b:=by
 obtain⟨sa,ta,va,ma,sl,sc,tl,tc,vl,vc,mc,nv,h⟩:=h;exact⟨sa,ta,va,ma,sl,sc,tl,tc,vl,vc,mc,nv,h.keep hb⟩
theorem BookE.turn (h:BookE w0 w L gb r b){P':zad}(ht:Turn w L r W P'):∃ L',BookE w0 W L' gb r { b with P:=P' }:=by
 obtain⟨sa,ta,va,ma,sl,sc,tl,tc,vl,vc,mc,nv,h⟩:=h;obtain⟨L',h⟩:=h.turn ht;exact⟨L',sa,ta,va,ma,sl,sc,tl,tc,vl,vc,mc,nv,h⟩
theorem zjr (c:Int)(hc:-9223372036854775808<=c/\c<=9223372036854775807)(hl:b.P.ms.length<=40)(h:BookE w0 w L gb r b):Calls Tryz.prog 56 #[.pointer (some ⟨gb,0,none⟩),.int .i64 c] w fun e W=>(∃ k:Int,e=.returned (.int .i64 k))/\Below w.heap.size w W:=by
 obtain⟨sa,ta,va,ma,sl,sc,tl,tc,vl,vc,mc,nv,h⟩:=h;have c1:=zgv hl h.run;have c2:=fun (n:Nat) (hn:0<n) (hn2:n<=2000000) W=>zcj c n hc hn hn2 W;have k5:w.cell? ⟨gb,5,none⟩=some (.pointer (some ⟨r,0,none⟩)):=h.row.cell rfl;clear h;generalize b.P.ms.flatMap msgF=xs at *;generalize b.P.ms.length=n at *;by_cases hn:n=0
 ·subst hn
  go_enter Tryz.func56,Tryz.ntmps56
  go_wp2_with (first|(go_at_call 53;refine c1.mono ?_;rintro e w1 ⟨v,rfl,ho,hb1⟩;obtain⟨ad,cp,rfl⟩:∃ ad cp,v=.slice ad 0 cp:=(by rcases ho.2 with⟨q1,q2⟩|⟨g,cp,cur,q1,_⟩;exact⟨none,0,q1⟩;exact⟨_,cp,q1⟩);clear ho))
  go_ret;exact⟨⟨_,rfl⟩,hb1⟩
 ·have c3:=c2 n (by omega) (by omega);have hn0:(0:Int)<(n:Int):=by omega
  go_enter Tryz.func56,Tryz.ntmps56
  go_wp2_with (first
   |(go_at_call 53;refine c1.mono ?_;rintro e w1 ⟨v,rfl,ho,hb1⟩;obtain⟨ad,cp,rfl⟩:∃ ad cp,v=.slice ad n cp:=(by rcases ho.2 with⟨q1,q2⟩|⟨g,cp,cur,q1,_⟩;exact⟨none,0,by rw[q1,q2]⟩;exact⟨_,cp,q1⟩);clear ho)
   |(go_at_call 42;refine(c3 _).mono ?_;rintro e _ ⟨rfl,rfl⟩))
  go_ret;exact⟨⟨_,rfl⟩,hb1⟩
end
end
section
open Go.RowKit
structure Bnd (N:Int)(P:zad):Prop where
 ti:0<=P.ti/\P.ti<=N
 nu:0<=P.c.nu/\P.c.nu<=N
 t200:P.c.ts.length<=200
 ts4:P.ts.length<=4
 rc:∀ (i:Nat) (T:TopD),P.ts[i]?=some T->T.recs.length<=12/\∀ x∈T.recs,0<=x.ti
theorem Bnd.same {N:Int}{P Q:zad}(h:Bnd N P)(h1:Q.ti=P.ti)(h2:Q.c.nu=P.c.nu)(h3:Q.c.ts=P.c.ts)(h4:Q.ts=P.ts):Bnd N Q :=
 ⟨by rw[h1];exact h.ti,by rw[h2];exact h.nu,by rw[h3];exact h.t200,by rw[h4];exact h.ts4,by rw[h4];exact h.rc⟩
theorem Bnd.mono {N M:Int}{P:zad}(h:Bnd N P)(hn:N<=M):Bnd M P:=⟨⟨h.ti.1,by have:=h.ti.2;omega⟩,⟨h.nu.1,by have:=h.nu.2;omega⟩,h.t200,h.ts4,h.rc⟩
theorem zxs (c:CtlD)(x:MsgD)(ti:Int):(za4 c x ti).nu=c.nu:=by
 unfold za4;split
 ·split
  ·unfold finC;rw[(zcg _).2.2.2.2.1];rfl
  ·rfl
 ·rfl
theorem zj5 (P:zad)(k:Int):(delP P k).ti=P.ti/\(delP P k).c.nu=P.c.nu/\(delP P k).c.ts=P.c.ts/\(delP P k).ts=P.ts/\(delP P k).ss=P.ss:=by
 unfold delP;split
 ·unfold arrP;split
  ·exact⟨rfl,zxs _ _ _,zo3 _ _ _,rfl,rfl⟩
  ·split<;>exact⟨rfl,rfl,rfl,rfl,rfl⟩
 ·exact⟨rfl,rfl,rfl,rfl,rfl⟩
theorem Bnd.del {N:Int}{P:zad}(h:Bnd N P)(k:Int):Bnd N (delP P k):=by
 obtain⟨a,b,c,d,_⟩:=zj5 P k;exact h.same a b c d
theorem Bnd.drp {N:Int}{P:zad}(h:Bnd N P)(k:Int):Bnd N (drpP P k):=by
 unfold drpP;split
 ·exact h.same rfl rfl rfl rfl
 ·exact h
theorem Bnd.cpy {N:Int}{P:zad}(h:Bnd N P)(k:Int):Bnd N (cpyP P k):=by
 unfold cpyP;split
 ·exact h.same rfl rfl rfl rfl
 ·exact h
theorem Bnd.pau {N:Int}{P:zad}(h:Bnd N P)(on:Bool):Bnd N (pauP P on):=h.same rfl rfl rfl rfl
theorem Bnd.crs {N:Int}{P:zad}(h:Bnd N P):Bnd N (crsP P):=by
 refine h.same rfl ?_ (znd _ _) rfl;show (crsC P.c P.ti).nu=P.c.nu;unfold crsC;split
 ·rfl
 ·split<;>rfl
theorem Bnd.trn {N:Int}{P:zad}(h:Bnd N P):Bnd N (trnP P):=by
 refine h.same rfl ?_ (zsi _) rfl;show (zc9 P.c).nu=P.c.nu;unfold zc9;rw[(zcg _).2.2.2.2.1];split<;>rfl
theorem Bnd.wrt {N:Int}{P:zad}(h:Bnd N P){t:Nat}{sc da:ByteArray}(hl:∀ T,P.ts[t]?=some T->T.recs.length<12):Bnd N (wrtP P t sc da):=by
 refine⟨h.ti,h.nu,h.t200,by show (P.ts.modify t _).length<=4;rw[List.length_modify];exact h.ts4,fun i T hT=>?_⟩;have hT':(P.ts.modify t fun T=>{ T with recs:=T.recs++[⟨sc,da,P.ti⟩] })[i]?=some T:=hT;rw[List.getElem?_modify]at hT';cases h0:P.ts[i]? with
 |none=>rw[h0]at hT';cases hT'
 |some T0 =>
  rw[h0]at hT';simp at hT';obtain⟨r1,r2⟩:=h.rc i T0 h0;split at hT'
  ·rename_i e;subst e;subst hT';have:=hl T0 h0;refine⟨by simp;omega,fun x hx=>?_⟩;simp at hx;rcases hx with q|q
   ·exact r2 x q
   ·subst q;exact h.ti.1
  ·subst hT';exact⟨r1,r2⟩
theorem zt7 (c:CtlD)(ti:Int):(actC c ti).nu=c.nu\/(actC c ti).nu=c.nu+1:=by
 have e2:(actA c ti).nu=c.nu:=by unfold actA;split<;>rfl
 unfold actC;split
 ·exact .inl rfl
 ·split
  ·unfold cmdC;split
   ·right;show (actA c ti).nu+1=_;rw[e2]
   ·exact .inl e2
  ·exact .inl e2
theorem Bnd.tck {N:Int}{P:zad}(h:Bnd N P):Bnd (N+1) (tckP P):=by
 have h1:=h.ti;have h2:=h.nu;refine⟨by show 0<=P.ti+1/\P.ti+1<=N+1;omega,?_,?_,by show (P.ts.map _).length<=4;rw[xz];exact h.ts4,fun i T hT=>?_⟩
 ·show 0<=(actC P.c (P.ti+1)).nu/\(actC P.c (P.ti+1)).nu<=N+1;rcases zt7 P.c (P.ti+1)with q|q<;>rw[q]<;>omega
 ·show (actC P.c (P.ti+1)).ts.length<=200;rw[zmm];exact h.t200
 ·have hT':(P.ts.map (fgtT (P.ti+1)))[i]?=some T:=hT;rw[xj]at hT';cases h0:P.ts[i]? with
  |none=>rw[h0]at hT';cases hT'
  |some T0 =>
   rw[h0]at hT';obtain rfl:fgtT (P.ti+1) T0=T:=by simpa using hT'
   obtain⟨r1,r2⟩:=h.rc i T0 h0;unfold fgtT;split
   ·exact⟨r1,r2⟩
   ·refine⟨Nat.le_trans (List.length_filter_le _ _) r1,fun x hx=>r2 x ?_⟩;simp at hx;exact hx.1
variable {X:WayD}{W:Nat->Int->Int->RecD->Prop}{P:zad}
theorem zne (h:Shp X P.vs P.c)(h2:P.c.ts.length<=200)(ho:zaj P.c=false):zby P.c:=by
 have h3:=h.st;have h4:=h.p0;have h5:=h.pn;have h6:=h.len;unfold zaj at ho;have ho:=of_decide_eq_false ho;exact⟨h2,by omega⟩
theorem zph (hi:PInv X W P)(he:Ext P){N:Int}(hb:Bnd N P)(hN:N<=3000000000):zma P:=by
 have h1:=hb.ti;have h2:=he.r0;have h3:=he.r6;refine⟨he.l40,fun x hx=>?_,fun hw=>?_,h1.1,by omega,h2,by omega⟩
 ·obtain⟨q1,q2,q3⟩:=hi.nt.m0 x hx;have:=(zd4.1 q1).2.2.1;exact⟨this,q3,q1⟩
 ·refine zne hi.sh hb.t200 ?_;have:=hi.sh.st;rw[hw]at this;simp at this;unfold zaj;exact decide_eq_false (by omega)
theorem zlu (hi:PInv X W P){N:Int}(hb:Bnd N P)(hN:N<=3000000000):zhh P:=by
 have h1:=hb.ti;have h2:=hb.nu;refine⟨⟨h1.1,by omega⟩,⟨h2.1,by omega⟩,zne hi.sh hb.t200,hb.ts4,fun i T hT=>?_⟩;obtain⟨r1,r2⟩:=hb.rc i T hT;refine⟨r1,fun x hx=>⟨r2 x hx,?_⟩⟩;have:=(hi.rc.ol i T x hT hx).1;omega
end
end Go.Proofs.YtkkekopomiehlabGreatDoor
