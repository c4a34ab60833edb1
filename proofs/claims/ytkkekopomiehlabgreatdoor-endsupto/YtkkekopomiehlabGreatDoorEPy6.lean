import Derived.Test.YtkkekopomiehlabGreatDoorEPv2
set_option linter.unusedVariables false
set_option linter.unusedSimpArgs false
set_option maxHeartbeats 40000000
open List renaming getElem?_eq_some_iff->xe,eraseIdx_of_length_le->xg,flatMap_append->xj,getElem?_eq_getElem->xm,length_append->xq,take_add_one->xu,take_length->xy,length_take->xz
open Nat renaming le_refl->xf,zero_le->qd
open Go.World renaming news_of_block->xh,ownsRow_made->xp,setCell->qf
open Go.Value renaming oneCell'->xo,ownBlock->qe
open Go.World.ownsRow renaming lt->xv
open Go.RowKit
set_option maxRecDepth 4000
namespace Go.Proofs.YtkkekopomiehlabGreatDoor
section
variable {w:World}{L:Nat->Nat}{r:Nat}{P:zad}{gt tc:Nat}{m:Value}{gv vc:Nat}{t s:Value}{sv:List (Value×Value)}{tv:List (Int×Value)}
theorem box5 (w:World):RowIs (w.alloc (.cells #[.int .i64 0,.int .i64 0,.int .i64 0,.int .i64 0,.int .i64 0] 100)) w.heap.size 100 [.int .i64 0,.int .i64 0,.int .i64 0,.int .i64 0,.int .i64 0]:=zal _ _
theorem zl7 (k:Int)(hk:numB k P.ms.length=false)(h:RunM w L r P gt tc m gv vc t s sv tv):Calls Tryz.prog 121 #[.pointer (some ⟨r,0,none⟩),.int .i64 k] w fun e W=>e=.returned (.tuple #[.agg #[.int .i64 0,.int .i64 0,.int .i64 0,.int .i64 0,.int .i64 0],.bool false])/\Below w.heap.size w W:=by
 obtain⟨a,cap,rfl,hc1,hc2⟩:=h.msg.len;have k13:w.cell? ⟨r,13,none⟩=some (.slice a P.ms.length cap):=h.row.cell rfl;have lr:=h.row.lt;have hn:=fun W=>za5 k (P.ms.length:Int) W;rw[hk]at hn;clear h hk;generalize P.ms.length=n at *
 go_enter Tryz.func121,Tryz.ntmps121
 go_wp2_with (first|(go_at_call 178;refine(hn _).mono ?_;rintro e _ ⟨rfl,rfl⟩))
 exact bodyPost_ret (v:=.tuple #[.agg #[.int .i64 0,.int .i64 0,.int .i64 0,.int .i64 0,.int .i64 0],.bool false]) (by simp[results,Tryz.results121,go_sem]) rfl ⟨rfl,bel1 _ _⟩
theorem RunM.msg5 (h:RunM w L r P gt tc m gv vc t s sv tv){k:Nat}{x:MsgD}(hk:P.ms[k]?=some x):∃ g cap,m=.slice (some ⟨g,0,none⟩) P.ms.length cap/\g<w.heap.size/\L g=3/\w.cell? ⟨g,k*5,none⟩=some (.int .i64 x.k)/\w.cell? ⟨g,k*5+1,none⟩=some (.int .i64 x.n)/\w.cell? ⟨g,k*5+2,none⟩=some (.int .i64 x.s)/\w.cell? ⟨g,k*5+3,none⟩=some (.int .i64 x.i)/\w.cell? ⟨g,k*5+4,none⟩=some (.int .i64 x.r):=by
 have hlt:=(xe.1 hk).1;obtain⟨g,cap,rfl,hg,hc1,hc2,lg,hcell,_⟩:=h.msg.some (by omega);exact⟨g,cap,rfl,lg,hg,hcell (k*5+0) _ (za2 (f:=msgF) (fun _=>rfl) hk (by omega)),hcell (k*5+1) _ (za2 (f:=msgF) (fun _=>rfl) hk (by omega)),hcell (k*5+2) _ (za2 (f:=msgF) (fun _=>rfl) hk (by omega)),hcell (k*5+3) _ (za2 (f:=msgF) (fun _=>rfl) hk (by omega)),hcell (k*5+4) _ (za2 (f:=msgF) (fun _=>rfl) hk (by omega))⟩
theorem zl8 (k:Nat)(x:MsgD)(hk:P.ms[k]?=some x)(h:RunM w L r P gt tc m gv vc t s sv tv):Calls Tryz.prog 121 #[.pointer (some ⟨r,0,none⟩),.int .i64 k] w fun e W=>e=.returned (.tuple #[.agg #[.int .i64 x.k,.int .i64 x.n,.int .i64 x.s,.int .i64 x.i,.int .i64 x.r],.bool true])/\Below w.heap.size w W:=by
 have hlt:=(xe.1 hk).1;obtain⟨g,cap,rfl,lg,_,c0,c1,c2,c3,c4⟩:=h.msg5 hk;have k13:w.cell? ⟨r,13,none⟩=some (.slice (some ⟨g,0,none⟩) P.ms.length cap):=h.row.cell rfl;have lr:=h.row.lt;have hn:=fun W=>za5 k (P.ms.length:Int) W;rw[show numB (k:Int) (P.ms.length:Int)=true by unfold numB;simp;omega]at hn;have hx0:(0:Int)<=(k:Int):=by omega
 have hx1:(k:Int)<(P.ms.length:Int):=by omega
 obtain⟨xk,xn,xs,xi,xr⟩:=x;simp only at c0 c1 c2 c3 c4;clear h hk hlt;generalize P.ms.length=n at *
 go_enter Tryz.func121,Tryz.ntmps121
 go_wp2_with (first|(go_at_call 178;refine(hn _).mono ?_;rintro e _ ⟨rfl,rfl⟩))
 exact bodyPost_ret (v:=.tuple #[.agg #[.int .i64 xk,.int .i64 xn,.int .i64 xs,.int .i64 xi,.int .i64 xr],.bool true]) (by simp[results,Tryz.results121,go_sem]) rfl ⟨rfl,bel1 _ _⟩
theorem Tryz.infoMsgK:(Tryz.prog.info? 100).map (fun i=>(i.zero,i.size,i.bytes))=some (some (.agg #[.int .i64 0,.int .i64 0,.int .i64 0,.int .i64 0,.int .i64 0]),5,40):=by kernel_rfl
theorem zmd (x:MsgD)(hl:40<=P.ms.length)(h:RunM w L r P gt tc m gv vc t s sv tv):Calls Tryz.prog 122 #[.pointer (some ⟨r,0,none⟩),.agg #[.int .i64 x.k,.int .i64 x.n,.int .i64 x.s,.int .i64 x.i,.int .i64 x.r]] w fun e W=>e=.returned (.bool false)/\Below w.heap.size w W:=by
 obtain⟨a,cap,rfl,hc1,hc2⟩:=h.msg.len;have k13:w.cell? ⟨r,13,none⟩=some (.slice a P.ms.length cap):=h.row.cell rfl;have lr:=h.row.lt;clear h;generalize P.ms.length=n at *
 go_enter Tryz.func122,Tryz.ntmps122
 go_wp2_with fail
 go_ret;exact⟨rfl,bel1 _ _⟩
theorem yab7 (x:MsgD){W w6:World}{g1 cap1 z:Nat}(h:RunM w L r P gt tc m gv vc t s sv tv)(hb:Below w.heap.size w W)(hown:w6.ownsRow 0 100 5 (.slice (some ⟨g1,0,none⟩) (P.ms.length+1) cap1) (P.ms.length+1) (P.ms.flatMap msgF++msgF x))(hgrow:W.grownBy w6 m.ownBlock)(hat:m.ownBlock=some g1\/g1=z)(hz:w.heap.size<=z) :
  ∃ m' L',RunM (w6.setCell ⟨r,13,none⟩ (.slice (some ⟨g1,0,none⟩) (P.ms.length+1) cap1)) L' r { P with ms:=P.ms++[x] } gt tc m' gv vc t s sv tv/\Lab w L L'/\Chg (fun b=>L b=1\/L b=3) w (w6.setCell ⟨r,13,none⟩ (.slice (some ⟨g1,0,none⟩) (P.ms.length+1) cap1)):=by
 have hne:m.ownBlock≠some r:=fun e=>by have:=h.msg.2 r e;rw[h.lr]at this;omega
 have lr:=h.row.lt;have hg:g1≠r:=fun e=>by
  subst e;rcases hat with q|q
  ·exact hne q
  ·omega
 have hL:Lab w L (fun b=>if b=g1 then 3 else L b):=fun b hb=>by
  show (if b=g1 then 3 else L b)=L b;split
  ·rename_i e;subst e;rcases hat with q|q
   ·exact(h.msg.2 _ q).symm
   ·omega
  ·rfl
 have hc:Chg (fun b=>L b=1\/L b=3) w (w6.setCell ⟨r,13,none⟩ (.slice (some ⟨g1,0,none⟩) (P.ms.length+1) cap1)) :=
  ((Chg.of (S:=fun b=>L b=1\/L b=3) hb).grown hgrow (fun k hk=>.inl (.inr (h.msg.2 k hk)))).set (p:=⟨r,13,none⟩) (.inl (.inl h.lr)) _
 have hlt:=xv hown g1 rfl;refine⟨_,_,h.mail hc hL (fun b hb'=>?_) (((h.row.keep hb).grown hgrow hne).set 13 _) ⟨?_,fun b hb=>?_⟩,hL,hc⟩
 ·have hz1:w6.heap.size<=b:=by simpa[qf]using hb'
  have hz2:=hgrow.size;have hz3:=hb.size;show (if b=g1 then 3 else L b)=0;rw[if_neg (by omega)];exact h.fr b (by omega)
 ·rw[xq,xj];have hob:∀ b,(Value.slice (some ⟨g1,0,none⟩) (P.ms.length+1) cap1).ownBlock=some b->¬ b=r:=fun b hb e=>by
   have:g1=b:=by simpa[qe]using hb
   omega
  have:=((Chg.refl (·= r) w6).set (p:=⟨r,13,none⟩) (.inl rfl) (.slice (some ⟨g1,0,none⟩) (P.ms.length+1) cap1)).own hown hob;have e:[x].flatMap msgF=msgF x:=by simp
  rw[e];exact this
 ·have:g1=b:=by simpa[qe]using hb
  subst this;show (if g1=g1 then 3 else L g1)=3;rw[if_pos rfl]
theorem zme (x:MsgD)(hl:P.ms.length<40)(h:RunM w L r P gt tc m gv vc t s sv tv):Calls Tryz.prog 122 #[.pointer (some ⟨r,0,none⟩),.agg #[.int .i64 x.k,.int .i64 x.n,.int .i64 x.s,.int .i64 x.i,.int .i64 x.r]] w fun e W=>e=.returned (.bool true)/\∃ m' L',RunM W L' r { P with ms:=P.ms++[x] } gt tc m' gv vc t s sv tv/\Lab w L L'/\Chg (fun b=>L b=1\/L b=3) w W:=by
 obtain⟨iM,hiM,zM0,zM1,zM2⟩:=info_parts Tryz.infoMsgK;obtain⟨a,cap,hm,hc1,hc2⟩:=h.msg.len;have k13:w.cell? ⟨r,13,none⟩=some m:=h.row.cell rfl;have x13:=h.row.frozen 13;have k13s:w.cell? ⟨r,13,none⟩=some (.slice a P.ms.length cap):=by rw[<- hm];exact k13
 have lr:=h.row.lt;have H:=zaa h;have HO:=zaa h.msg.1;have hne:m.ownBlock≠some r:=fun e=>by have:=h.msg.2 r e;rw[h.lr]at this;omega
 clear h k13;obtain⟨n,hn⟩:∃ n,n=P.ms.length:=⟨_,rfl⟩;rw[<- hn]at HO hl k13s hm;subst hm;have HN:=zaa hn;clear hn;obtain⟨xk,xn,xs,xi,xr⟩:=x;have hnew:Hid (((w.alloc (.cells #[.int .i64 xk,.int .i64 xn,.int .i64 xs,.int .i64 xi,.int .i64 xr] 100)).alloc (.cells #[.int .i64 xk,.int .i64 xn,.int .i64 xs,.int .i64 xi,.int .i64 xr] 100)).heap[w.heap.size+1]?=some (.cells #[.int .i64 xk,.int .i64 xn,.int .i64 xs,.int .i64 xi,.int .i64 xr] 100)):=by
  have:=heap_alloc_new (w.alloc (.cells #[.int .i64 xk,.int .i64 xn,.int .i64 xs,.int .i64 xi,.int .i64 xr] 100)) (.cells #[.int .i64 xk,.int .i64 xn,.int .i64 xs,.int .i64 xi,.int .i64 xr] 100);rw[show (w.alloc (.cells #[.int .i64 xk,.int .i64 xn,.int .i64 xs,.int .i64 xi,.int .i64 xr] 100)).heap.size=w.heap.size+1 by simp]at this;exact this
 go_enter Tryz.func122,Tryz.ntmps122
 go_wp2_with fail
 go_region_law (first|(refine step_append_lies _ (by rfl) _ _ _ (by rfl) 0 100 iM _ 5 40 Tryz.underlying94 hiM zM0 zM1 zM2 rfl (by omega) (.slice a n cap) n _ (by rfl) (((HO.out.alloc _).alloc _).drew) ⟨w.heap.size+1,0,none⟩ 1 1 [.int .i64 xk,.int .i64 xn,.int .i64 xs,.int .i64 xi,.int .i64 xr] (by rfl) (by rfl) (xh hnew.out) (by simp[xo]) (by omega) (by unfold maxLen;omega) (by omega) (by simp) (w.heap.size+2) (by simp) ?_;intro g1 cap1 w6 hown1 hgrow1 hat1 hlt1;have R6:=zaa (((H.out.row.keep (bel1 w (.cells #[.int .i64 xk,.int .i64 xn,.int .i64 xs,.int .i64 xi,.int .i64 xr] 100))).keep (bel1 _ (.cells #[.int .i64 xk,.int .i64 xn,.int .i64 xs,.int .i64 xi,.int .i64 xr] 100))).drew.grown hgrow1 hne);have j13:w6.cell? ⟨r,13,none⟩=some (.slice a n cap):=(R6.out.cell rfl);have y13:=R6.out.frozen 13))
 all_goals
  go_wp2_with fail
  go_ret;refine⟨rfl,?_⟩;have hn:=HN.out;subst hn;exact yab7 ⟨xk,xn,xs,xi,xr⟩ H.out (thn3 (bel1 w (.cells #[.int .i64 xk,.int .i64 xn,.int .i64 xs,.int .i64 xi,.int .i64 xr] 100)) (bel1 _ (.cells #[.int .i64 xk,.int .i64 xn,.int .i64 xs,.int .i64 xi,.int .i64 xr] 100))).drew hown1 hgrow1 hat1 (by omega)
end
section
theorem nw2 (w:World)(o p:Obj):((w.alloc o).alloc p).heap[w.heap.size+1]?=some p:=by
 have:=heap_alloc_new (w.alloc o) p;rw[show (w.alloc o).heap.size=w.heap.size+1 by simp]at this;exact this
theorem zh2 {α:Type}{f:α->List Value}{l:List α}{i:Nat}{x:α}(h:l[i]?=some x):(l.take (i+1)).flatMap f=(l.take i).flatMap f++f x:=by
 rw[xu,h,xj];simp
theorem Chg.set5 {S:Nat->Prop}{a w:World}(h:Chg S a w){z:Nat}(hz:S z\/a.heap.size<=z)(v0 v1 v2 v3 v4:Value):Chg S a (((((w.setCell ⟨z,0,none⟩ v0).setCell ⟨z,1,none⟩ v1).setCell ⟨z,2,none⟩ v2).setCell ⟨z,3,none⟩ v3).setCell ⟨z,4,none⟩ v4) :=
 ((((h.set (p:=⟨z,0,none⟩) hz v0).set (p:=⟨z,1,none⟩) hz v1).set (p:=⟨z,2,none⟩) hz v2).set (p:=⟨z,3,none⟩) hz v3).set (p:=⟨z,4,none⟩) hz v4
variable {w:World}{L:Nat->Nat}{r:Nat}{P:zad}{gt tc:Nat}{m:Value}{gv vc:Nat}{t s:Value}{sv:List (Value×Value)}{tv:List (Int×Value)}
theorem ztl (hl:P.ms.length<=40)(h:RunM w L r P gt tc m gv vc t s sv tv):Calls Tryz.prog 117 #[.pointer (some ⟨r,0,none⟩)] w fun e W=>∃ v,e=.returned v/\W.ownsRow w.heap.size 100 5 v P.ms.length (P.ms.flatMap msgF)/\Below w.heap.size w W:=by
 obtain⟨iM,hiM,zM0,zM1,zM2⟩:=info_parts Tryz.infoMsgK;obtain⟨a,cap,hm,hc1,hc2⟩:=h.msg.len;have k13:w.cell? ⟨r,13,none⟩=some (.slice a P.ms.length cap):=by rw[<- hm];exact h.row.cell rfl
 have lr:=h.row.lt;have H:=zaa h;clear h;obtain⟨n,hn⟩:∃ n,n=P.ms.length:=⟨_,rfl⟩;rw[<- hn]at k13 hm hl hc1 ⊢;subst hm;have HN:=zaa hn;clear hn;have O0:=zaa (xp (base:=w.heap.size) (e:=100) (size:=5) w #[] 0 (xf _) (by unfold maxLen;omega) rfl)
 go_enter Tryz.func117,Tryz.ntmps117
 go_wp2_with fail
 go_loopw [3,12] (fun vt vi wr=>∃ i:Nat,i<=n/\vi=.int .i64 i/\wr.ownsRow w.heap.size 100 5 vt i ((P.ms.take i).flatMap msgF)/\Below w.heap.size w wr) (fun _ i _=>n-(intOf i).toNat)
 case atStart=>exact⟨0,qd _,rfl,O0.out,bel1 _ _⟩
 case round =>
  obtain⟨i,hi,rfl,hown,hb⟩:=hrel
  rename World=>w5
  have HOWN:=zaa hown;have HB:=zaa hb;have zb:=hb.size;have hx0 := znn i;by_cases hlt:i<n
  ·obtain⟨x,hx⟩:∃ x,P.ms[i]?=some x:=⟨P.ms[i]'(by rw[<- HN.out];exact hlt),xm _⟩;obtain⟨g,cp,hsl,lg,_,c0,c1,c2,c3,c4⟩:=(H.out.keep hb).msg5 hx;have HF:=zaa (zh2 (f:=msgF) hx);rw[<- HN.out]at hsl;obtain⟨rfl,rfl⟩:a=some ⟨g,0,none⟩/\cap=cp:=by simpa using hsl
   obtain⟨xk,xn,xs,xi,xr⟩:=x;simp only at c0 c1 c2 c3 c4;have hx1:(i:Int)<(n:Int):=by omega
   have nsz:g≠w5.heap.size:=by omega
   clear hown hb hx hsl
   go_wp2_with (at_builtin;refine wpList_append_lies _ rfl _ _ _ rfl w.heap.size 100 iM _ 5 40 Tryz.underlying94 hiM zM0 zM1 zM2 rfl (by omega) u3 i _ rfl ((HOWN.out.alloc _).alloc _) ⟨w5.heap.size+1,0,none⟩ 1 1 [.int .i64 xk,.int .i64 xn,.int .i64 xs,.int .i64 xi,.int .i64 xr] rfl rfl (xh (nw2 _ _ _)) (by simp[xo]) (by omega) (by unfold maxLen;omega) (by omega) (by simp;omega) (w5.heap.size+2) (by simp) ?_;intro g2 cap2 w8 hown2 hgrow2 hat2 hlt2)
   go_roundw
   case rel =>
    refine⟨i+1,by omega,by go_num,by rw[HF.out];exact hown2,?_⟩;exact Below.grown ((HB.out.alloc (by omega) _).alloc (by simp;omega) _) hgrow2 (by simp;omega) (fun k hk=>(HOWN.out.lt k hk).1)
   case measure=>simp[intOf];omega
  ·obtain rfl:n=i:=by omega
   go_wp2_with fail
   go_ret;refine⟨_,rfl,?_,HB.out⟩;have:=HOWN.out;rw[HN.out,xy,<- HN.out]at this;exact this
theorem yadh {W:World}{base n:Nat}{v:Value}{ms':List MsgD}(h:RunM w L r P gt tc m gv vc t s sv tv)(hb:Below w.heap.size w W)(hn:n=ms'.length)(hown:W.ownsRow base 100 5 v n (ms'.flatMap msgF))(hz:w.heap.size<=base) :
  ∃ L',RunM (W.setCell ⟨r,13,none⟩ v) L' r { P with ms:=ms' } gt tc v gv vc t s sv tv/\Lab w L L'/\Chg (fun b=>L b=1\/L b=3) w (W.setCell ⟨r,13,none⟩ v)/\∀ b,b<base->L' b=L b:=by
 have lr:=h.row.lt;have hlt:=xv hown;have hg:∀ b,v.ownBlock=some b->¬ b=r:=fun b hb e=>by have:=(hlt b hb).1;omega
 have hL:∀ b,b<base->(if v.ownBlock=some b then 3 else L b)=L b:=fun b hb=>by
  rw[if_neg (fun e=>by have:=(hlt b e).1;omega)]
 have hc:Chg (fun b=>L b=1\/L b=3) w (W.setCell ⟨r,13,none⟩ v):=(Chg.of (S:=fun b=>L b=1\/L b=3) hb).set (p:=⟨r,13,none⟩) (.inl (.inl h.lr)) _;refine⟨fun b=>if v.ownBlock=some b then 3 else L b,h.mail hc (fun b hb=>hL b (by omega)) (fun b hb'=>?_) ((h.row.keep hb).set 13 _) ⟨?_,fun b hb=>if_pos hb⟩,fun b hb=>hL b (by omega),hc,hL⟩
 ·have hz1:W.heap.size<=b:=by simpa[qf]using hb'
  have hz3:=hb.size;show (if v.ownBlock=some b then 3 else L b)=0;rw[if_neg (fun e=>by have:=(hlt b e).2;omega)];exact h.fr b (by omega)
 ·have:=((Chg.refl (·= r) W).set (p:=⟨r,13,none⟩) (.inl rfl) v).own hown hg;rw[<- hn];exact this.mono (qd _)
theorem zww {l:List MsgD}{i k:Nat}{x:MsgD}(h:l[i]?=some x):(l.take (i+1)).eraseIdx k=if i=k then (l.take i).eraseIdx k else (l.take i).eraseIdx k++[x]:=by
 have hlt:=(xe.1 h).1;have hl:(l.take i).length=i:=by rw[xz];omega
 rw[xu,h];show (l.take i++[x]).eraseIdx k=_;by_cases h1:i=k
 ·subst h1;have e2:(l.take i).eraseIdx i=l.take i:=xg (by omega);rw[if_pos rfl,List.eraseIdx_append_of_length_le (by omega),hl,Nat.sub_self,e2];simp
 ·rw[if_neg h1];by_cases h2:k<i
  ·rw[List.eraseIdx_append_of_lt_length (by omega)]
  ·rw[xg (by simp;omega),xg (by omega)]
theorem zmh (k:Int)(hk:numB k P.ms.length=false)(h:RunM w L r P gt tc m gv vc t s sv tv):Calls Tryz.prog 119 #[.pointer (some ⟨r,0,none⟩),.int .i64 k] w fun e W=>e=.returned (.tuple #[.agg #[.int .i64 0,.int .i64 0,.int .i64 0,.int .i64 0,.int .i64 0],.bool false])/\Below w.heap.size w W:=by
 have c1:=fun (W:World) (hb:Below w.heap.size w W)=>zl7 k hk (h.keep hb);have lr:=h.row.lt;clear h hk
 go_enter Tryz.func119,Tryz.ntmps119
 go_wp2_with (first|(go_at_call 121;refine(c1 _ (bel1 _ _)).mono ?_;rintro e w1 ⟨rfl,hb1⟩;have B1:=thn3 (bel1 w _) hb1;have Z1:=zaa (((box5 w).keep hb1).keep (bel1 w1 (.cells #[.int .i64 0,.int .i64 0,.int .i64 0,.int .i64 0,.int .i64 0] 100)));have y0:=Z1.out.cell (j:=0) rfl;have y1:=Z1.out.cell (j:=1) rfl;have y2:=Z1.out.cell (j:=2) rfl;have y3:=Z1.out.cell (j:=3) rfl;have y4:=Z1.out.cell (j:=4) rfl;have f0:=Z1.out.frozen 0;have f1:=Z1.out.frozen 1;have f2:=Z1.out.frozen 2;have f3:=Z1.out.frozen 3;have f4:=Z1.out.frozen 4;have zb:=B1.size))
 have Z3:=((((Z1.out.set 0 (.int .i64 0)).set 1 (.int .i64 0)).set 2 (.int .i64 0)).set 3 (.int .i64 0)).set 4 (.int .i64 0);have o0:=Z3.cell (j:=0) rfl;have o1:=Z3.cell (j:=1) rfl;have o2:=Z3.cell (j:=2) rfl;have o3:=Z3.cell (j:=3) rfl;have o4:=Z3.cell (j:=4) rfl;refine bodyPost_ret (v:=.tuple #[.agg #[.int .i64 0,.int .i64 0,.int .i64 0,.int .i64 0,.int .i64 0],.bool false]) (by simp[results,Tryz.results119,go_sem,o0,o1,o2,o3,o4]) rfl ⟨rfl,?_⟩;exact(((((thn3 B1 (bel1 _ _)).setCell (p:=⟨w.heap.size,0,none⟩) (xf _) _).setCell (p:=⟨w.heap.size,1,none⟩) (xf _) _).setCell (p:=⟨w.heap.size,2,none⟩) (xf _) _).setCell (p:=⟨w.heap.size,3,none⟩) (xf _) _).setCell (p:=⟨w.heap.size,4,none⟩) (xf _) _
theorem zmi (k:Nat)(y:MsgD)(hl:P.ms.length<=40)(hk:P.ms[k]?=some y)(h:RunM w L r P gt tc m gv vc t s sv tv):Calls Tryz.prog 119 #[.pointer (some ⟨r,0,none⟩),.int .i64 k] w fun e W=>e=.returned (.tuple #[.agg #[.int .i64 y.k,.int .i64 y.n,.int .i64 y.s,.int .i64 y.i,.int .i64 y.r],.bool true])/\∃ m' L',RunM W L' r { P with ms:=P.ms.eraseIdx k } gt tc m' gv vc t s sv tv/\Lab w L L'/\Chg (fun b=>L b=1\/L b=3) w W:=by
 have c1:=fun (W:World) (hb:Below w.heap.size w W)=>zl8 k y hk (h.keep hb);obtain⟨iM,hiM,zM0,zM1,zM2⟩:=info_parts Tryz.infoMsgK;obtain⟨a,cap,hm,hc1,hc2⟩:=h.msg.len;have lr:=h.row.lt;have H:=zaa h;have hkl:=(xe.1 hk).1;have hk13:=fun (W:World) (hb:Below w.heap.size w W)=>(show W.cell? ⟨r,13,none⟩=some m from(h.row.keep hb).cell rfl);have hf13:=fun (W:World) (hb:Below w.heap.size w W)=>(h.row.keep hb).frozen 13;clear h hk;obtain⟨n,hn⟩:∃ n,n=P.ms.length:=⟨_,rfl⟩;rw[<- hn]at hm hl hc1 hkl;subst hm;have HN:=zaa hn;clear hn;obtain⟨yk,yn,ys,yi,yr⟩:=y;simp only at c1 ⊢
 go_enter Tryz.func119,Tryz.ntmps119
 go_wp2_with (first|(go_at_call 121;refine(c1 _ (bel1 _ _)).mono ?_;rintro e w1 ⟨rfl,hb1⟩;have B1:=zaa (thn3 (thn3 (bel1 w (.cells #[.int .i64 0,.int .i64 0,.int .i64 0,.int .i64 0,.int .i64 0] 100)) hb1) (bel1 w1 (.cells #[.int .i64 yk,.int .i64 yn,.int .i64 ys,.int .i64 yi,.int .i64 yr] 100)));have Z1:=zaa (((box5 w).keep hb1).keep (bel1 w1 (.cells #[.int .i64 yk,.int .i64 yn,.int .i64 ys,.int .i64 yi,.int .i64 yr] 100)));have T1:=zaa (show RowIs (w1.alloc (.cells #[.int .i64 yk,.int .i64 yn,.int .i64 ys,.int .i64 yi,.int .i64 yr] 100)) w1.heap.size 100 [.int .i64 yk,.int .i64 yn,.int .i64 ys,.int .i64 yi,.int .i64 yr]from zal _ _);have l1:w.heap.size<w1.heap.size:=(by have:=hb1.size;simp at this;omega);have k13:=hk13 _ (thn3 B1.out (bel1 _ (.cells #[] 100)));have O0:=zaa (xp (base:=w1.heap.size+1) (e:=100) (size:=5) (w1.alloc (.cells #[.int .i64 yk,.int .i64 yn,.int .i64 ys,.int .i64 yi,.int .i64 yr] 100)) #[] 0 (by simp) (by unfold maxLen;omega) rfl)))
 go_loopw [8,26] (fun vt vi wr=>∃ i:Nat,i<=n/\vi=.int .i64 i/\wr.ownsRow (w1.heap.size+1) 100 5 vt ((P.ms.take i).eraseIdx k).length (((P.ms.take i).eraseIdx k).flatMap msgF)/\Below (w1.heap.size+1) (w1.alloc (.cells #[.int .i64 yk,.int .i64 yn,.int .i64 ys,.int .i64 yi,.int .i64 yr] 100)) wr) (fun _ i _=>n-(intOf i).toNat)
 case atStart=>exact⟨0,qd _,rfl,by simpa using O0.out,(Below.refl _ _).alloc (by simp) _⟩
 case round =>
  obtain⟨i,hi,rfl,hown,hb⟩:=hrel
  rename World=>w5
  have HOWN:=zaa hown;have HB:=zaa hb;have zb:=hb.size;have hbw:Below w.heap.size w w5:=thn3 B1.out (hb.mono (by simp));have hx0 := znn i;have hll:((P.ms.take i).eraseIdx k).length<=40:=by
   have:=List.length_eraseIdx_le (P.ms.take i) k;rw[xz]at this;omega
  by_cases hlt:i<n
  ·obtain⟨x,hx⟩:∃ x,P.ms[i]?=some x:=⟨P.ms[i]'(by rw[<- HN.out];exact hlt),xm _⟩;obtain⟨g,cp,hsl,lg,_,c0,c1,c2,c3,c4⟩:=(H.out.keep hbw).msg5 hx;have HE:=zaa (zww (k:=k) hx);rw[<- HN.out]at hsl;obtain⟨rfl,rfl⟩:a=some ⟨g,0,none⟩/\cap=cp:=by simpa using hsl
   obtain⟨xk,xn,xs,xi,xr⟩:=x;simp only at c0 c1 c2 c3 c4;have hx1:(i:Int)<(n:Int):=by omega
   have nsz:g≠w5.heap.size:=by omega
   have hsz:w1.heap.size+1<=w5.heap.size:=by simp at zb;omega
   clear hown hb hx hsl hk13 hf13 zb;by_cases hik:i=k
   ·subst hik
    go_wp2_with fail
    go_roundw
    case rel =>
     refine⟨i+1,by omega,by go_num,by rw[HE.out,if_pos rfl];exact HOWN.out.alloc _,?_⟩;exact HB.out.alloc (by omega) _
    case measure=>simp[intOf];omega
   ·have hik':¬ ((i:Int)=(k:Int)):=by omega
    generalize hJ:((P.ms.take i).eraseIdx k).length=J at *
    go_wp2_with (at_builtin;refine wpList_append_lies _ rfl _ _ _ rfl (w1.heap.size+1) 100 iM _ 5 40 Tryz.underlying94 hiM zM0 zM1 zM2 rfl (by omega) u8 J _ rfl ((HOWN.out.alloc _).alloc _) ⟨w5.heap.size+1,0,none⟩ 1 1 [.int .i64 xk,.int .i64 xn,.int .i64 xs,.int .i64 xi,.int .i64 xr] rfl rfl (xh (nw2 _ _ _)) (by simp[xo]) (by omega) (by unfold maxLen;omega) (by omega) (by simp;omega) (w5.heap.size+2) (by simp) ?_;intro g2 cap2 w8 hown2 hgrow2 hat2 hlt2)
    go_roundw
    case rel =>
     refine⟨i+1,by omega,by go_num,?_,?_⟩
     ·rw[HE.out,if_neg hik,xq,hJ,xj];simpa[msgF]using hown2
     ·exact Below.grown ((HB.out.alloc (by omega) _).alloc (by simp;omega) _) hgrow2 (by simp;omega) (fun k hk=>(HOWN.out.lt k hk).1)
    case measure=>simp[intOf];omega
  ·obtain rfl:n=i:=by omega
   obtain⟨a',cap',hu⟩:∃ a' cap',u8=.slice a' ((P.ms.take n).eraseIdx k).length cap':=by
    rcases hown.2 with⟨h1,h2⟩|⟨g,cap',cur,h1,_⟩
    ·exact⟨none,0,by rw[h1,h2]⟩
    ·exact⟨_,cap',h1⟩
   have HE:Hid ((P.ms.take n).eraseIdx k=P.ms.eraseIdx k):=by show _=_;rw[HN.out,xy]
   have hT5:=zaa ((T1.out.keep (hb.mono (by simp))));have hYa:=zaa ((Z1.out.keep (hb.mono (by simp))));have k13':=hk13 _ hbw;have x13:=hf13 _ hbw;have n1:w1.heap.size≠r:=by omega
   have n2:w.heap.size≠r:=by omega
   have n3:w.heap.size≠w1.heap.size:=by omega
   generalize hJ:((P.ms.take n).eraseIdx k).length=J at *;subst hu;have T6:=zaa (hT5.out.setOther (p:=⟨r,13,none⟩) n1.symm (.slice a' J cap'));have Z6:=zaa (hYa.out.setOther (p:=⟨r,13,none⟩) n2.symm (.slice a' J cap'));have t0:=T6.out.cell (j:=0) rfl;have t1:=T6.out.cell (j:=1) rfl;have t2:=T6.out.cell (j:=2) rfl;have t3:=T6.out.cell (j:=3) rfl;have t4:=T6.out.cell (j:=4) rfl;have y0:=Z6.out.cell (j:=0) rfl;have y1:=Z6.out.cell (j:=1) rfl;have y2:=Z6.out.cell (j:=2) rfl;have y3:=Z6.out.cell (j:=3) rfl;have y4:=Z6.out.cell (j:=4) rfl;have f0:=Z6.out.frozen 0;have f1:=Z6.out.frozen 1;have f2:=Z6.out.frozen 2;have f3:=Z6.out.frozen 3;have f4:=Z6.out.frozen 4;clear hown hb hk13 hf13 hll zb
   go_wp2_with fail
   have Z7:=((((Z6.out.set 0 (.int .i64 yk)).set 1 (.int .i64 yn)).set 2 (.int .i64 ys)).set 3 (.int .i64 yi)).set 4 (.int .i64 yr);have o0:=Z7.cell (j:=0) rfl;have o1:=Z7.cell (j:=1) rfl;have o2:=Z7.cell (j:=2) rfl;have o3:=Z7.cell (j:=3) rfl;have o4:=Z7.cell (j:=4) rfl;refine bodyPost_ret (v:=.tuple #[.agg #[.int .i64 yk,.int .i64 yn,.int .i64 ys,.int .i64 yi,.int .i64 yr],.bool true]) (by simp[results,Tryz.results119,go_sem,o0,o1,o2,o3,o4]) rfl ⟨rfl,?_⟩;have ho:w5.ownsRow (w1.heap.size+1) 100 5 (.slice a' J cap') J ((P.ms.eraseIdx k).flatMap msgF):=by
    have:=HOWN.out;rw[HE.out]at this;exact this
   have hn':J=(P.ms.eraseIdx k).length:=by rw[<- HE.out];exact hJ.symm
   obtain⟨L',hM,hL,hC,hlow⟩:=yadh H.out hbw hn' ho (by omega);have hz0:L' w.heap.size=0:=by rw[hlow _ (by omega)];exact H.out.fr _ (xf _)
   have hX:=(Chg.refl (·= w.heap.size) (w5.setCell ⟨r,13,none⟩ (.slice a' J cap'))).set5 (z:=w.heap.size) (.inl rfl) (.int .i64 yk) (.int .i64 yn) (.int .i64 ys) (.int .i64 yi) (.int .i64 yr);exact⟨_,L',hM.out hX (fun b hb=>by rw[hb];exact hz0),hL,hC.set5 (.inr (xf _)) _ _ _ _ _⟩
end
end Go.Proofs.YtkkekopomiehlabGreatDoor
