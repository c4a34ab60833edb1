import Derived.Test.YtkkekopomiehlabGreatDoorEProg0
import Derived.Test.YtkkekopomiehlabGreatDoorCards
import Derived.Test.YtkkekopomiehlabGreatDoorTie
import Derived.ProofKit
import Derived.OpenShut
import Derived.ShutString
import Derived.Deep.DeepHandedRow
import Derived.Laws.CopyOwn
import Derived.Laws.CopyRow
import Derived.Laws.MakeOwn
import Derived.Laws.OwnMore
import Derived.Lib.SlBuf
import Derived.Deep.MidRow
import Derived.Laws.PanicsMore
set_option linter.unusedVariables false
set_option linter.unusedSimpArgs false
set_option maxHeartbeats 40000000
set_option maxRecDepth 4000
open List renaming getElem?_eq_getElem->xe,range->xf,take_of_length_le->xg,getElem?_append_left->xj,mem_of_getElem?->xo,all_eq_true->xq,all_append->xv,take_add_one->qd,flatMap_cons->qe,length_take->qf,range_succ->qh,mem_range->qi
open Bool renaming true_and->xh
open Nat renaming zero_le->xm,lt_of_lt_of_le->xp,le_refl->xy,le_trans->xz,zero_add->qj,lt_or_ge->qk
open Array renaming getElem?_eq_none->xu
open Option.some renaming inj->qg
open ByteArray renaming empty->qm
namespace Go.Proofs.YtkkekopomiehlabGreatDoor
section
open Go.ChangeShapes Go.WideShapes Go.ChangeAt Go.RowKit
theorem zx7:ownKnob Tryz.prog.godebug=none:=by kernel_rfl
theorem yadf {W:World}(h:laidMetH Tryz.prog Rows.servedUptoRow.laid W):Tab W:=by
 have h' : laidMet Tryz.prog [("math/bits.deBruijn32tab", Rows.laid_math_bits_deBruijn32tab), ("math/bits.deBruijn64tab", Rows.laid_math_bits_deBruijn64tab), ("internal/strconv.uint64pow10", Lib.tabData .u64 Lib.pow10Tab)] W := h;obtain ⟨ps,⟨_,_,_,_,_,_,_,_,_,_,⟨_,_,_,_,_,_,_,_,_,_,⟨g',t',cs,fuel,p,q,hg',ht',hvar,hd,_,_⟩,_⟩,_⟩,_⟩:=h';obtain rfl:=qg (g_pow.symm.trans hg');obtain rfl:=qg (g_powType.symm.trans ht');unfold Tab Lib.TabIs;rw [hvar,<- Lib.cells_of_tab Tryz.underlying352 Tryz.underlying346 zu7 zu6 hd]
def yac8:DataW Unit->Array Value
 |.agg ds=>(ds.map fun|.lit (.int k z)=>Value.int k z|_=>Value.bool false).toArray
 |_=>#[]
def zd8 (d:DataW Unit):Obj->Obj
 |.cells _ t frozen=>.cells (yac8 d) t frozen
 |o=>o
end
section
open Go.RowKit
structure PinD where
 t:Int
 w:Int
 r:Int
structure SvcD where
 size:Int
 now:Int
 want:Int
 rels:List (List PinD)
structure zac where
 ss:List ByteArray
 ts:List Int
 vs:List SvcD
def StrsAt (w:World)(a:Option Addr)(ss:List ByteArray):Prop:=∀ i s,ss[i]?=some s->∃ b o,a=some ⟨b,o,none⟩/\w.cell? ⟨b,o+i,none⟩=some (.string s)
def IntsAt (w:World)(a:Option Addr)(ns:List Int):Prop:=∀ i n,ns[i]?=some n->∃ b o,a=some ⟨b,o,none⟩/\w.cell? ⟨b,o+i,none⟩=some (.int .i64 n)
def PinsAt (w:World)(a:Option Addr)(ps:List PinD):Prop:=∀ i p,ps[i]?=some p->∃ b o,a=some ⟨b,o,none⟩/\w.cell? ⟨b,o+i*3,none⟩=some (.int .i64 p.t)/\w.cell? ⟨b,o+i*3+1,none⟩=some (.int .i64 p.w)/\w.cell? ⟨b,o+i*3+2,none⟩=some (.int .i64 p.r)
def PinSl (w:World)(pa:Option Addr)(pl pc:Nat)(ps:List PinD):Prop:=pl=ps.length/\ps.length<=2000000/\pl<=pc/\pc<=9223372036854775807/\PinsAt w pa ps
def zts (R:World->Option Addr->Nat->Nat->List PinD->Prop)(w:World)(a:Option Addr)(rs:List (List PinD)):Prop:=∀ i ps,rs[i]?=some ps->∃ b o pa pl pc,a=some ⟨b,o,none⟩/\w.cell? ⟨b,o+i,none⟩=some (.slice pa pl pc)/\R w pa pl pc ps
def RelSl (R:World->Option Addr->Nat->Nat->List PinD->Prop)(w:World)(ra:Option Addr)(rl rc:Nat)(rs:List (List PinD)):Prop:=rl=rs.length/\rs.length<=2000000/\rl<=rc/\rc<=9223372036854775807/\zts R w ra rs
def SvcsAt (Q:World->Option Addr->Nat->Nat->List (List PinD)->Prop)(w:World)(a:Option Addr)(vs:List SvcD):Prop:=∀ i v,vs[i]?=some v->∃ b o ra rl rc,a=some ⟨b,o,none⟩ /\
 w.cell? ⟨b,o+i*4,none⟩=some (.int .i64 v.size)/\w.cell? ⟨b,o+i*4+1,none⟩=some (.int .i64 v.now)/\w.cell? ⟨b,o+i*4+2,none⟩=some (.int .i64 v.want)/\w.cell? ⟨b,o+i*4+3,none⟩=some (.slice ra rl rc)/\Q w ra rl rc v.rels
theorem StrsAt.keep {w w':World}(hb:Below w.heap.size w w'){a:Option Addr}{ss:List ByteArray}(h:StrsAt w a ss):StrsAt w' a ss:=fun i s hi=>by
 obtain⟨b,o,h1,h2⟩:=h i s hi;exact⟨b,o,h1,zab hb h2⟩
theorem IntsAt.keep {w w':World}(hb:Below w.heap.size w w'){a:Option Addr}{ns:List Int}(h:IntsAt w a ns):IntsAt w' a ns:=fun i s hi=>by
 obtain⟨b,o,h1,h2⟩:=h i s hi;exact⟨b,o,h1,zab hb h2⟩
theorem PinsAt.keep {w w':World}(hb:Below w.heap.size w w'){a:Option Addr}{ps:List PinD}(h:PinsAt w a ps):PinsAt w' a ps:=fun i s hi=>by
 obtain⟨b,o,h1,h2,h3,h4⟩:=h i s hi;exact⟨b,o,h1,zab hb h2,zab hb h3,zab hb h4⟩
theorem PinSl.keep {w w':World}(hb:Below w.heap.size w w'){a:Option Addr}{l c:Nat}{ps:List PinD}(h:PinSl w a l c ps):PinSl w' a l c ps:=⟨h.1,h.2.1,h.2.2.1,h.2.2.2.1,h.2.2.2.2.keep hb⟩
theorem RelSl.keep {R:World->Option Addr->Nat->Nat->List PinD->Prop}{w w':World}(hR:∀ a l c ps,R w a l c ps->R w' a l c ps)(hb:Below w.heap.size w w'){a:Option Addr}{l c:Nat}{rs:List (List PinD)}(h:RelSl R w a l c rs):RelSl R w' a l c rs:=⟨h.1,h.2.1,h.2.2.1,h.2.2.2.1,fun i ps hi=>by
 obtain⟨b,o,pa,pl,pc,h1,h2,h3⟩:=h.2.2.2.2 i ps hi;exact⟨b,o,pa,pl,pc,h1,zab hb h2,hR _ _ _ _ h3⟩⟩
theorem SvcsAt.keep {Q:World->Option Addr->Nat->Nat->List (List PinD)->Prop}{w w':World}(hQ:∀ a l c rs,Q w a l c rs->Q w' a l c rs)(hb:Below w.heap.size w w'){a:Option Addr}{vs:List SvcD}(h:SvcsAt Q w a vs):SvcsAt Q w' a vs:=fun i v hi=>by
 obtain⟨b,o,ra,rl,rc,h1,h2,h3,h4,h5,h6⟩:=h i v hi;exact⟨b,o,ra,rl,rc,h1,zab hb h2,zab hb h3,zab hb h4,zab hb h5,hQ _ _ _ _ h6⟩
theorem PinsAt.take {w:World}{a:Option Addr}{ps:List PinD}(h:PinsAt w a ps)(k:Nat):PinsAt w a (ps.take k):=fun i p hi=>h i p (by
 rw[List.getElem?_take]at hi;split at hi
 ·exact hi
 ·cases hi)
theorem zms (F:Nat->Bool)(x:Nat):(xf (x+1)).all F=((xf x).all F&&F x):=by rw[qh,xv];simp
theorem zmt {F:Nat->Bool}{x n:Nat}(hx:x<n)(h:F x=false):(xf n).all F=false:=by
 cases hc:(xf n).all F with
 |false=>rfl
 |true=>rw[xq]at hc;rw[hc x (qi.2 hx)]at h;cases h
def numB (n c:Int):Bool:=decide (0<=n)&&decide (n<c)
def pinB (ns nt:Nat)(p:PinD):Bool:=numB p.t nt&&((p.w == -1)||numB p.w ns)&&((p.r == -1)||numB p.r ns)
theorem za5 (n c:Int)(w:World):Calls Tryz.prog 178 #[.int .i64 n,.int .i64 c] w fun e w'=>e=.returned (.bool (numB n c))/\w=w':=by
 unfold numB;by_cases h0:0<=n
 ·go_enter Tryz.func178,Tryz.ntmps178
  go_wp2_with fail
  go_ret;exact⟨zbx (by simp[h0]),rfl⟩
 ·go_enter Tryz.func178,Tryz.ntmps178
  go_wp2_with fail
  go_ret;exact⟨zbx (by simp;omega),rfl⟩
theorem zuh {ps:List PinD}{x:Nat}{p:PinD}(f:PinD->Bool)(h:ps[x]?=some p):(ps.take (x+1)).any f=((ps.take x).any f||f p):=by
 rw[qd,h,List.any_append];simp
theorem zx1 (ps:List PinD)(t:Int)(w:World)(a:Option Addr)(cap:Nat)(hl:ps.length<=2000000)(hp:PinsAt w a ps) :
  Calls Tryz.prog 282 #[.slice a ps.length cap,.int .i64 t] w fun e w'=>e=.returned (.bool (ps.any fun q=>q.t == t))/\Below w.heap.size w w':=by
 obtain⟨R,hR⟩:∃ R,R=ps.any fun q=>q.t == t:=⟨_,rfl⟩;rw[<- hR];have HR:Hid (R=ps.any fun q=>q.t == t):=hR;clear hR
 go_enter Tryz.func282,Tryz.ntmps282
 go_wp2_with fail
 go_loopw [9] (fun vi wr=>∃ i:Nat,i<=ps.length/\vi=.int .i64 i/\Hid (((ps.take i).any fun q=>q.t == t)=false)/\Below w.heap.size w wr) (fun i _=>ps.length-(intOf i).toNat)
 case atStart=>exact⟨0,xm _,rfl,(by show _=_;rfl),Below.refl _ _⟩
 case round =>
  obtain⟨i,hi,rfl,hn,hb⟩:=hrel;by_cases hlt:i<ps.length
  ·obtain⟨p,hpi⟩:∃ p,ps[i]?=some p:=⟨ps[i],xe hlt⟩;obtain⟨b,o,rfl,c0,c1,c2⟩:=hp i p hpi;have c0:=zab hb c0;have c1:=zab hb c1;have c2:=zab hb c2;have hbl:=zag c0;have hsn:=zuh (fun q=>q.t == t) hpi;by_cases ht:p.t=t
   ·have hR1:R=true:=by
     rw[HR.out,List.any_eq_true];exact⟨p,xo hpi,by simp[ht]⟩
    have ht':(p.t == t)=true:=by simp[ht]
    clear HR hn hsn hpi ht;subst hR1
    go_wp2_with fail
    go_ret;exact⟨rfl,Below.alloc' hb _⟩
   ·have ht':(p.t == t)=false:=by simp[ht]
    have hn':Hid (((ps.take (i+1)).any fun q=>q.t == t)=false):=by show _=_;rw[hsn,hn.out,ht'];rfl
    clear HR hn hsn hpi ht
    go_wp2_with fail
    go_roundw
    case rel=>exact⟨i+1,by omega,by go_num,hn',Below.alloc' hb _⟩
    case measure=>simp[intOf];omega
  ·have hR1:R=false:=by rw[HR.out];have:=hn.out;rw[xg (by omega)]at this;exact this
   clear HR hn;subst hR1
   go_wp2_with fail
   go_ret;exact⟨rfl,hb⟩
theorem zz9 (ns nt:Nat)(p:PinD)(sa ta va:Option Addr)(sc tc vl vc:Nat)(hns:ns<=2000000)(hnt:nt<=2000000)(w:World) :
  Calls Tryz.prog 281 #[.agg #[.slice sa ns sc,.slice ta nt tc,.slice va vl vc],.agg #[.int .i64 p.t,.int .i64 p.w,.int .i64 p.r]] w fun e w'=>e=.returned (.bool (pinB ns nt p))/\Below w.heap.size w w':=by
 obtain⟨x,y,z⟩:=p;have h1:=fun w=>za5 x nt w;have h2:=fun w=>za5 y ns w;have h3:=fun w=>za5 z ns w;have hr:Hid (pinB ns nt ⟨x,y,z⟩=(numB x nt&&((y == -1)||numB y ns)&&((z == -1)||numB z ns))):=rfl;generalize numB x nt=b1 at h1 hr;generalize numB y ns=b2 at h2 hr;generalize numB z ns=b3 at h3 hr;simp only;have key:∀ (y0 z0:Bool),(y == -1)=y0->(z == -1)=z0->(y0=true\/b2=true\/b2=false)->(z0=true\/b3=true\/b3=false)->(b1=true\/b1=false)->Hid (pinB ns nt ⟨x,y,z⟩=(b1&&(y0||b2)&&(z0||b3)))->Calls Tryz.prog 281 #[.agg #[.slice sa ns sc,.slice ta nt tc,.slice va vl vc],.agg #[.int .i64 x,.int .i64 y,.int .i64 z]] w fun e w'=>e=.returned (.bool (pinB ns nt ⟨x,y,z⟩))/\Below w.heap.size w w':=by
  intro y0 z0 hy hz c1 c2 c3 hr;cases y0
  ·cases z0
   ·rcases c3 with rfl|rfl<;>rcases c1 with h|rfl|rfl<;>(try cases h)<;>rcases c2 with h|rfl|rfl<;>(try cases h)<;>(
    go_enter Tryz.func281,Tryz.ntmps281
    go_wp2_with (first|(go_at_call 178;have hq:=m2;refine(h1 _).mono ?_;rintro e _ ⟨rfl,rfl⟩;have m3:True:=trivial)|(go_at_call 178;have hq:=m1;refine(h3 _).mono ?_;rintro e _ ⟨rfl,rfl⟩;have m2:True:=trivial)|(go_at_call 178; refine(h2 _).mono ?_;rintro e _ ⟨rfl,rfl⟩;have m1:True:=trivial))
    go_ret;exact⟨zbx (by rw[hr.out];rfl),Below.alloc' (Below.alloc' (Below.refl _ _) _) _⟩)
   ·rcases c3 with rfl|rfl<;>rcases c1 with h|rfl|rfl<;>(try cases h)<;>(
    clear c2
    go_enter Tryz.func281,Tryz.ntmps281
    go_wp2_with (first|(go_at_call 178;have hq:=m1;refine(h1 _).mono ?_;rintro e _ ⟨rfl,rfl⟩;have m2:True:=trivial)|(go_at_call 178; refine(h2 _).mono ?_;rintro e _ ⟨rfl,rfl⟩;have m1:True:=trivial))
    go_ret;exact⟨zbx (by rw[hr.out];rfl),Below.alloc' (Below.alloc' (Below.refl _ _) _) _⟩)
  ·cases z0
   ·rcases c3 with rfl|rfl<;>rcases c2 with h|rfl|rfl<;>(try cases h)<;>(
    clear c1
    go_enter Tryz.func281,Tryz.ntmps281
    go_wp2_with (first|(go_at_call 178;have hq:=m1;refine(h1 _).mono ?_;rintro e _ ⟨rfl,rfl⟩;have m2:True:=trivial)|(go_at_call 178; refine(h3 _).mono ?_;rintro e _ ⟨rfl,rfl⟩;have m1:True:=trivial))
    go_ret;exact⟨zbx (by rw[hr.out];rfl),Below.alloc' (Below.alloc' (Below.refl _ _) _) _⟩)
   ·rcases c3 with rfl|rfl<;>(
    clear c1;clear c2
    go_enter Tryz.func281,Tryz.ntmps281
    go_wp2_with (first|(go_at_call 178; refine(h1 _).mono ?_;rintro e _ ⟨rfl,rfl⟩;have m1:True:=trivial))
    go_ret;exact⟨zbx (by rw[hr.out];rfl),Below.alloc' (Below.alloc' (Below.refl _ _) _) _⟩)
 refine key _ _ rfl rfl ?_ ?_ ?_ hr
 ·cases b2<;>simp
 ·cases b3<;>simp
 ·cases b1<;>simp
end
section
open Go.RowKit
theorem box3 (w:World)(v0 v1 v2:Value)(t:TypeId):(w.alloc (.cells #[v0,v1,v2] t)).cell? ⟨w.heap.size,0,none⟩=some v0/\(w.alloc (.cells #[v0,v1,v2] t)).cell? ⟨w.heap.size,1,none⟩=some v1/\(w.alloc (.cells #[v0,v1,v2] t)).cell? ⟨w.heap.size,2,none⟩=some v2 :=
 ⟨zam rfl rfl,zam rfl rfl,zam rfl rfl⟩
theorem zaq {W w1:World}(hb:Below W.heap.size W w1){b:Nat}{v0 v1 v2:Value}(h:W.cell? ⟨b,0,none⟩=some v0/\W.cell? ⟨b,1,none⟩=some v1/\W.cell? ⟨b,2,none⟩=some v2):w1.cell? ⟨b,0,none⟩=some v0/\w1.cell? ⟨b,1,none⟩=some v1/\w1.cell? ⟨b,2,none⟩=some v2 :=
 ⟨zab hb h.1,zab hb h.2.1,zab hb h.2.2⟩
theorem new3 {W:World}(o:Obj){b:Nat}{v0 v1 v2:Value}(h:W.cell? ⟨b,0,none⟩=some v0/\W.cell? ⟨b,1,none⟩=some v1/\W.cell? ⟨b,2,none⟩=some v2):(W.alloc o).cell? ⟨b,0,none⟩=some v0/\(W.alloc o).cell? ⟨b,1,none⟩=some v1/\(W.alloc o).cell? ⟨b,2,none⟩=some v2 :=
 ⟨zah _ h.1,zah _ h.2.1,zah _ h.2.2⟩
theorem zf3 {A B:Prop}(a:A)(b:B):A/\B:=⟨a,b⟩
theorem zgl {W w1:World}(hb:Below W.heap.size W w1){b c:Nat}{v0 v1 v2 u0 u1 u2:Value}(h:(W.cell? ⟨b,0,none⟩=some v0/\W.cell? ⟨b,1,none⟩=some v1/\W.cell? ⟨b,2,none⟩=some v2)/\W.cell? ⟨c,0,none⟩=some u0/\W.cell? ⟨c,1,none⟩=some u1/\W.cell? ⟨c,2,none⟩=some u2) :
  (w1.cell? ⟨b,0,none⟩=some v0/\w1.cell? ⟨b,1,none⟩=some v1/\w1.cell? ⟨b,2,none⟩=some v2)/\w1.cell? ⟨c,0,none⟩=some u0/\w1.cell? ⟨c,1,none⟩=some u1/\w1.cell? ⟨c,2,none⟩=some u2:=⟨zaq hb h.1,zaq hb h.2⟩
theorem bel1 (w:World)(o:Obj):Below w.heap.size w (w.alloc o):=(Below.refl _ _).alloc (xy _) _
theorem thn3 {w W w1:World}(h:Below w.heap.size w W)(k:Below W.heap.size W w1):Below w.heap.size w w1:=h.trans (k.mono h.size)
def pinK (ns nt:Nat)(ps:List PinD)(k:Nat):Bool :=
 match ps[k]? with
 |some p=>pinB ns nt p&&!((ps.take k).any fun q=>q.t == p.t)
 |none=>true
def za7 (ns nt:Nat)(ps:List PinD):Bool:=decide (ps.length<=4)&&(xf ps.length).all (pinK ns nt ps)
theorem yaac (ns nt:Nat)(ps:List PinD)(sa ta va:Option Addr)(sc tc vl vc:Nat)(hns:ns<=2000000)(hnt:nt<=2000000)(w:World)(a:Option Addr)(l cap:Nat)(hp:PinSl w a l cap ps) :
  Calls Tryz.prog 227 #[.agg #[.slice sa ns sc,.slice ta nt tc,.slice va vl vc],.slice a l cap] w fun e w'=>e=.returned (.bool (za7 ns nt ps))/\Below w.heap.size w w':=by
 obtain⟨rfl,hl,hlc,hc9,hp⟩:=hp;obtain⟨R,hR⟩:∃ R,R=za7 ns nt ps:=⟨_,rfl⟩;rw[<- hR];by_cases h4:ps.length<=4
 ·have HR:Hid (R=(xf ps.length).all (pinK ns nt ps)):=by show _=_;rw[hR];unfold za7;rw[decide_eq_true h4];rfl
  clear hR
  go_enter Tryz.func227,Tryz.ntmps227
  go_wp2_with fail
  go_loopw [12] (fun vi wr=>∃ i:Nat,i<=ps.length/\vi=.int .i64 i/\Hid ((xf i).all (pinK ns nt ps)=true)/\Below (w.alloc (.cells #[.slice sa ns sc,.slice ta nt tc,.slice va vl vc] 26)).heap.size (w.alloc (.cells #[.slice sa ns sc,.slice ta nt tc,.slice va vl vc] 26)) wr) (fun i _=>ps.length-(intOf i).toNat)
  case atStart=>exact⟨0,xm _,rfl,(by show _=_;rfl),Below.refl _ _⟩
  case round =>
   obtain⟨i,hi,rfl,hn,hb⟩:=hrel;have hbw:=thn3 (bel1 w _) hb;by_cases hlt:i<ps.length
   ·obtain⟨p,hpi⟩:∃ p,ps[i]?=some p:=⟨ps[i],xe hlt⟩;obtain⟨b,o,rfl,c0,c1,c2⟩:=hp i p hpi;have c0:=zab hbw c0;have c1:=zab hbw c1;have c2:=zab hbw c2;have hbl:=zag c0;obtain⟨f0,f1,f2⟩:=zaq hb (box3 w _ _ _ _);have hfl:w.heap.size<wr.heap.size:=zag f0;have hx0 := znn i;have hx1:(i:Int)<=(cap:Int):=by omega
    have hx2:(i:Int)<=(ps.length:Int):=by omega
    have hcall:=fun W=>zz9 ns nt p sa ta va sc tc vl vc hns hnt W;have hfor:=fun (W:World) (h:Below w.heap.size w W)=>zx1 (ps.take i) p.t W (some ⟨b,o,none⟩) cap (by rw[qf];omega) ((hp.take i).keep h);rw[qf,Nat.min_eq_left (by omega)]at hfor;have hK:pinK ns nt ps i=(pinB ns nt p&&!((ps.take i).any fun q=>q.t == p.t)):=by unfold pinK;rw[hpi]
    generalize pinB ns nt p=x1 at hcall hK;generalize ((ps.take i).any fun q=>q.t == p.t)=x2 at hfor hK;have hno:pinK ns nt ps i=false->R=false:=fun h=>by rw[HR.out];exact zmt hlt h
    have hyes:pinK ns nt ps i=true->Hid ((xf (i+1)).all (pinK ns nt ps)=true):=fun h=>by show _=_;rw[zms,hn.out,h];rfl
    rw[hK]at hno hyes;clear hK hpi hn HR hp;obtain⟨x,y,z⟩:=p;simp only at c0 c1 c2 hcall hfor;cases x1 with
    |false =>
     have hR1:=hno rfl;clear hno hyes hfor;subst hR1;have e0:=zf3 (new3 (.cells #[.int .i64 x,.int .i64 y,.int .i64 z] 165) ⟨f0,f1,f2⟩) (box3 wr (.int .i64 x) (.int .i64 y) (.int .i64 z) 165)
     go_wp2_with fail
     first|go_region_with (first|(go_at_call 281;refine(hcall _).mono ?_;rintro e w3 ⟨rfl,hb3⟩;have e1:=zgl hb3 e0))|fail
     all_goals
      go_wp2_with fail
      go_ret
      first|exact⟨rfl,thn3 (thn3 hbw (bel1 _ _)).drew hb3⟩|exact⟨rfl,thn3 (thn3 hbw (bel1 _ _)) hb3⟩
    |true =>
     cases x2 with
     |true =>
      have hR1:=hno rfl;clear hno hyes;subst hR1;have e0:=zf3 (new3 (.cells #[.int .i64 x,.int .i64 y,.int .i64 z] 165) ⟨f0,f1,f2⟩) (box3 wr (.int .i64 x) (.int .i64 y) (.int .i64 z) 165)
      go_wp2_with fail
      go_region_held3 (fun w'=>(w'.cell? ⟨w.heap.size,0,none⟩=some (.slice sa ns sc)/\w'.cell? ⟨w.heap.size,1,none⟩=some (.slice ta nt tc)/\w'.cell? ⟨w.heap.size,2,none⟩=some (.slice va vl vc))/\w'.cell? ⟨wr.heap.size,0,none⟩=some (.int .i64 x)/\w'.cell? ⟨wr.heap.size,1,none⟩=some (.int .i64 y)/\w'.cell? ⟨wr.heap.size,2,none⟩=some (.int .i64 z)) (go_keep) (first|(go_at_call 281;refine(hcall _).mono ?_;rintro e w3 ⟨rfl,hb3⟩;have e1:=zgl hb3 e0)|(go_at_call 282;refine(hfor _ (by first|exact thn3 (thn3 hbw (bel1 _ _)).drew hb3|exact thn3 (thn3 hbw (bel1 _ _)) hb3)).mono ?_;rintro e w4 ⟨rfl,hb4⟩;have e2:=zgl hb4 e1))
      go_wp2_with fail
      go_ret
      first|exact⟨rfl,thn3 (thn3 (thn3 hbw (bel1 _ _)).drew hb3) hb4⟩|exact⟨rfl,thn3 (thn3 (thn3 hbw (bel1 _ _)) hb3) hb4⟩
     |false =>
      have hy:=hyes rfl;clear hno hyes;have e0:=zf3 (new3 (.cells #[.int .i64 x,.int .i64 y,.int .i64 z] 165) ⟨f0,f1,f2⟩) (box3 wr (.int .i64 x) (.int .i64 y) (.int .i64 z) 165)
      go_wp2_with fail
      go_region_held3 (fun w'=>(w'.cell? ⟨w.heap.size,0,none⟩=some (.slice sa ns sc)/\w'.cell? ⟨w.heap.size,1,none⟩=some (.slice ta nt tc)/\w'.cell? ⟨w.heap.size,2,none⟩=some (.slice va vl vc))/\w'.cell? ⟨wr.heap.size,0,none⟩=some (.int .i64 x)/\w'.cell? ⟨wr.heap.size,1,none⟩=some (.int .i64 y)/\w'.cell? ⟨wr.heap.size,2,none⟩=some (.int .i64 z)) (go_keep) (first|(go_at_call 281;refine(hcall _).mono ?_;rintro e w3 ⟨rfl,hb3⟩;have e1:=zgl hb3 e0)|(go_at_call 282;refine(hfor _ (by first|exact thn3 (thn3 hbw (bel1 _ _)).drew hb3|exact thn3 (thn3 hbw (bel1 _ _)) hb3)).mono ?_;rintro e w4 ⟨rfl,hb4⟩;have e2:=zgl hb4 e1))
      go_wp2_with fail
      go_roundw
      case rel=>first|exact⟨i+1,by omega,by go_num,hy,thn3 (thn3 (thn3 hb (bel1 _ _)).drew hb3) hb4⟩|exact⟨i+1,by omega,by go_num,hy,thn3 (thn3 (thn3 hb (bel1 _ _)) hb3) hb4⟩
      case measure=>simp[intOf];omega
   ·have hR1:R=true:=by rw[HR.out,<- hn.out,show i=ps.length by omega]
    clear HR hn;subst hR1
    go_wp2_with fail
    go_ret;exact⟨rfl,hbw⟩
 ·have hR1:R=false:=by rw[hR];unfold za7;rw[decide_eq_false h4];rfl
  clear hR;subst hR1
  go_enter Tryz.func227,Tryz.ntmps227
  go_wp2_with fail
  go_ret;exact⟨rfl,bel1 _ _⟩
end
section
open Go.RowKit
def svcB (ns nt:Nat)(v:SvcD):Bool:=decide (1<=v.size)&&decide (v.size<=3)&&decide (1<=v.rels.length)&&decide (v.rels.length<=3)&&numB v.now v.rels.length&&numB v.want v.rels.length&&v.rels.all (za7 ns nt)
theorem zed {α:Type}{l:List α}{x:Nat}{p:α}(f:α->Bool)(h:l[x]?=some p):(l.take (x+1)).all f=((l.take x).all f&&f p):=by
 rw[qd,h,xv];simp
theorem zec {α:Type}{l:List α}{x:Nat}{p:α}{f:α->Bool}(h:l[x]?=some p)(hp:f p=false):l.all f=false:=by
 cases hc:l.all f with
 |false=>rfl
 |true=>rw[xq]at hc;rw[hc p (xo h)]at hp;cases hp
theorem yab9 (ns nt:Nat)(v:SvcD)(sa ta va:Option Addr)(sc tc vl vc:Nat)(hns:ns<=2000000)(hnt:nt<=2000000)(w:World)(ra:Option Addr)(rl rc:Nat)(hp:RelSl PinSl w ra rl rc v.rels) :
  Calls Tryz.prog 177 #[.agg #[.slice sa ns sc,.slice ta nt tc,.slice va vl vc],.agg #[.int .i64 v.size,.int .i64 v.now,.int .i64 v.want,.slice ra rl rc]] w fun e w'=>e=.returned (.bool (svcB ns nt v))/\Below w.heap.size w w':=by
 obtain⟨sz,nw,wn,rels⟩:=v;simp only at hp ⊢;obtain⟨rfl,hl,hlc,hc9,hp⟩:=hp;obtain⟨R,hR⟩:∃ R,R=svcB ns nt ⟨sz,nw,wn,rels⟩:=⟨_,rfl⟩;rw[<- hR];unfold svcB at hR;simp only at hR;by_cases h1:1<=sz/\sz<=3/\1<=rels.length/\rels.length<=3
 ·obtain⟨g1,g2,g3,g4⟩:=h1;rw[decide_eq_true g1,decide_eq_true g2,decide_eq_true g3,decide_eq_true g4]at hR;have n1:=fun w=>za5 nw rels.length w;have n2:=fun w=>za5 wn rels.length w;generalize numB nw rels.length=b1 at hR n1;generalize numB wn rels.length=b2 at hR n2;have hbx:Below w.heap.size w ((w.alloc (.cells #[.slice sa ns sc,.slice ta nt tc,.slice va vl vc] 26)).alloc (.cells #[.int .i64 sz,.int .i64 nw,.int .i64 wn,.slice ra rels.length rc] 73)):=thn3 (bel1 _ _) (bel1 _ _);cases b1 with
  |false =>
   have hR1:R=false:=hR;clear hR;subst hR1
   go_enter Tryz.func177,Tryz.ntmps177
   go_wp2_with (go_at_call 178;refine(n1 _).mono ?_;rintro e _ ⟨rfl,rfl⟩;have m1:True:=trivial)
   go_ret;exact⟨rfl,hbx⟩
  |true =>
   cases b2 with
   |false =>
    have hR1:R=false:=hR;clear hR;subst hR1
    go_enter Tryz.func177,Tryz.ntmps177
    go_wp2_with (first|(go_at_call 178;have hq:=m1;refine(n2 _).mono ?_;rintro e _ ⟨rfl,rfl⟩;have m2:True:=trivial)|(go_at_call 178;refine(n1 _).mono ?_;rintro e _ ⟨rfl,rfl⟩;have m1:True:=trivial))
    go_ret;exact⟨rfl,hbx⟩
   |true =>
    simp only[xh]at hR;have HR:Hid (R=rels.all (za7 ns nt)):=hR;clear hR
    go_enter Tryz.func177,Tryz.ntmps177
    go_wp2_with (first|(go_at_call 178;have hq:=m1;refine(n2 _).mono ?_;rintro e _ ⟨rfl,rfl⟩;have m2:True:=trivial)|(go_at_call 178;refine(n1 _).mono ?_;rintro e _ ⟨rfl,rfl⟩;have m1:True:=trivial))
    go_loopw [42] (fun vi wr=>∃ i:Nat,i<=rels.length/\vi=.int .i64 i/\Hid ((rels.take i).all (za7 ns nt)=true)/\Below ((w.alloc (.cells #[.slice sa ns sc,.slice ta nt tc,.slice va vl vc] 26)).alloc (.cells #[.int .i64 sz,.int .i64 nw,.int .i64 wn,.slice ra rels.length rc] 73)).heap.size ((w.alloc (.cells #[.slice sa ns sc,.slice ta nt tc,.slice va vl vc] 26)).alloc (.cells #[.int .i64 sz,.int .i64 nw,.int .i64 wn,.slice ra rels.length rc] 73)) wr) (fun i _=>rels.length-(intOf i).toNat)
    case atStart=>exact⟨0,xm _,rfl,(by show _=_;rfl),Below.refl _ _⟩
    case round =>
     obtain⟨i,hi,rfl,hn,hb⟩:=hrel;have hbw:=thn3 hbx hb;by_cases hlt:i<rels.length
     ·obtain⟨ps,hpi⟩:∃ ps,rels[i]?=some ps:=⟨rels[i],xe hlt⟩;obtain⟨b,o,pa,pl,pc,rfl,c0,hps⟩:=hp i ps hpi;have c0:=zab hbw c0;have hbl:=zag c0;obtain⟨f0,f1,f2⟩:=zaq hb (new3 _ (box3 w _ _ _ _));have hfl:w.heap.size<wr.heap.size:=zag f0;have hcall:=fun (W:World) (h:Below wr.heap.size wr W)=>yaac ns nt ps sa ta va sc tc vl vc hns hnt W pa pl pc (hps.keep (thn3 hbw h));have hsn:=zed (za7 ns nt) hpi;have hno:za7 ns nt ps=false->R=false:=fun h=>by rw[HR.out];exact zec hpi h
      rw[hn.out,xh]at hsn;generalize za7 ns nt ps=x at hcall hsn hno;have hx0 := znn i;have hx1:(i:Int)<(rels.length:Int):=by omega
      clear hpi hps hn HR hp;cases x with
      |false =>
       have hR1:=hno rfl;clear hno hsn;subst hR1
       go_wp2_with (go_at_call 227;refine(hcall _ (bel1 _ _)).mono ?_;rintro e w3 ⟨rfl,hb3⟩)
       go_ret;exact⟨rfl,thn3 (thn3 hbw (bel1 _ _)) hb3⟩
      |true =>
       have hy:Hid ((rels.take (i+1)).all (za7 ns nt)=true):=hsn;clear hno hsn
       go_wp2_with (go_at_call 227;refine(hcall _ (bel1 _ _)).mono ?_;rintro e w3 ⟨rfl,hb3⟩)
       go_roundw
       case rel=>exact⟨i+1,by omega,by go_num,hy,thn3 (thn3 hb (bel1 _ _)) hb3⟩
       case measure=>simp[intOf];omega
     ·have hR1:R=true:=by rw[HR.out,<- hn.out,xg (by omega)]
      clear HR hn;subst hR1
      go_wp2_with fail
      go_ret;exact⟨rfl,hbw⟩
 ·have hR1:R=false:=by
   rw[hR];by_cases g1:1<=sz
   ·by_cases g2:sz<=3
    ·by_cases g3:1<=rels.length
     ·rw[decide_eq_false (show ¬ rels.length<=3 by omega)];simp
     ·rw[decide_eq_false g3];simp
    ·rw[decide_eq_false g2];simp
   ·rw[decide_eq_false g1];simp
  clear hR;subst hR1;by_cases g1:1<=sz
  ·by_cases g2:sz<=3
   ·by_cases g3:1<=rels.length
    ·have g4:3<rels.length:=by omega
     clear h1
     go_enter Tryz.func177,Tryz.ntmps177
     go_wp2_with fail
     go_ret;exact⟨rfl,thn3 (bel1 _ _) (bel1 _ _)⟩
    ·have g4:rels.length=0:=by omega
     clear h1 g3
     go_enter Tryz.func177,Tryz.ntmps177
     go_wp2_with fail
     go_ret;exact⟨rfl,thn3 (bel1 _ _) (bel1 _ _)⟩
   ·clear h1
    go_enter Tryz.func177,Tryz.ntmps177
    go_wp2_with fail
    go_ret;exact⟨rfl,thn3 (bel1 _ _) (bel1 _ _)⟩
  ·clear h1
   go_enter Tryz.func177,Tryz.ntmps177
   go_wp2_with fail
   go_ret;exact⟨rfl,thn3 (bel1 _ _) (bel1 _ _)⟩
end
section
open Go.RowKit
def zd9 (ns nt:Nat)(vs:List SvcD):Bool:=decide (1<=vs.length)&&decide (vs.length<=3)&&vs.all (svcB ns nt)
theorem RelSl.keepP {w w':World}(hb:Below w.heap.size w w'){a:Option Addr}{l c:Nat}{rs:List (List PinD)}(h:RelSl PinSl w a l c rs):RelSl PinSl w' a l c rs:=h.keep (fun _ _ _ _ h=>h.keep hb) hb
theorem yacb (ns nt:Nat)(vs:List SvcD)(sa ta va:Option Addr)(sc tc vl vc:Nat)(hns:ns<=2000000)(hnt:nt<=2000000)(w:World)(hvl:vl=vs.length)(hvs:vs.length<=2000000)(hp:SvcsAt (RelSl PinSl) w va vs) :
  Calls Tryz.prog 106 #[.agg #[.slice sa ns sc,.slice ta nt tc,.slice va vl vc]] w fun e w'=>e=.returned (.bool (zd9 ns nt vs))/\Below w.heap.size w w':=by
 obtain⟨R,hR⟩:∃ R,R=zd9 ns nt vs:=⟨_,rfl⟩;rw[<- hR];unfold zd9 at hR;subst hvl;by_cases h1:1<=vs.length
 ·by_cases h2:vs.length<=3
  ·rw[decide_eq_true h1,decide_eq_true h2]at hR;simp only[xh]at hR;have HR:Hid (R=vs.all (svcB ns nt)):=hR;clear hR
   go_enter Tryz.func106,Tryz.ntmps106
   go_wp2_with fail
   go_loopw [18] (fun vi wr=>∃ i:Nat,i<=vs.length/\vi=.int .i64 i/\Hid ((vs.take i).all (svcB ns nt)=true)/\Below (w.alloc (.cells #[.slice sa ns sc,.slice ta nt tc,.slice va vs.length vc] 26)).heap.size (w.alloc (.cells #[.slice sa ns sc,.slice ta nt tc,.slice va vs.length vc] 26)) wr) (fun i _=>vs.length-(intOf i).toNat)
   case atStart=>exact⟨0,xm _,rfl,(by show _=_;rfl),Below.refl _ _⟩
   case round =>
    obtain⟨i,hi,rfl,hn,hb⟩:=hrel;have hbw:=thn3 (bel1 _ _) hb;by_cases hlt:i<vs.length
    ·obtain⟨v,hvi⟩:∃ v,vs[i]?=some v:=⟨vs[i],xe hlt⟩;obtain⟨b,o,ra,rl,rc,rfl,c0,c1,c2,c3,hrs⟩:=hp i v hvi;have c0:=zab hbw c0;have c1:=zab hbw c1;have c2:=zab hbw c2;have c3:=zab hbw c3;have hbl:=zag c0;obtain⟨f0,f1,f2⟩:=zaq hb (box3 w _ _ _ _);have hfl:w.heap.size<wr.heap.size:=zag f0;have hcall:=fun (W:World) (h:Below wr.heap.size wr W)=>yab9 ns nt v sa ta (some ⟨b,o,none⟩) sc tc vs.length vc hns hnt W ra rl rc (RelSl.keepP (thn3 hbw h) hrs);have hsn:=zed (svcB ns nt) hvi;have hno:svcB ns nt v=false->R=false:=fun h=>by rw[HR.out];exact zec hvi h
     rw[hn.out,xh]at hsn;generalize svcB ns nt v=x at hcall hsn hno;have hx0 := znn i;have hx1:(i:Int)<(vs.length:Int):=by omega
     obtain⟨sz,nw,wn,rels⟩:=v;simp only at c0 c1 c2 c3 hcall;clear hvi hrs hn HR hp;cases x with
     |false =>
      have hR1:=hno rfl;clear hno hsn;subst hR1
      go_wp2_with (go_at_call 177;refine(hcall _ (bel1 _ _)).mono ?_;rintro e w3 ⟨rfl,hb3⟩)
      go_ret;exact⟨rfl,thn3 (thn3 hbw (bel1 _ _)) hb3⟩
     |true =>
      have hy:Hid ((vs.take (i+1)).all (svcB ns nt)=true):=hsn;clear hno hsn
      go_wp2_with (go_at_call 177;refine(hcall _ (bel1 _ _)).mono ?_;rintro e w3 ⟨rfl,hb3⟩)
      go_roundw
      case rel=>exact⟨i+1,by omega,by go_num,hy,thn3 (thn3 hb (bel1 _ _)) hb3⟩
      case measure=>simp[intOf];omega
    ·have hR1:R=true:=by rw[HR.out,<- hn.out,xg (by omega)]
     clear HR hn;subst hR1
     go_wp2_with fail
     go_ret;exact⟨rfl,hbw⟩
  ·have hR1:R=false:=by rw[hR,decide_eq_false h2];simp
   clear hR;subst hR1
   go_enter Tryz.func106,Tryz.ntmps106
   go_wp2_with fail
   go_ret;exact⟨rfl,bel1 _ _⟩
 ·have hR1:R=false:=by rw[hR,decide_eq_false h1];simp
  have h0:vs.length=0:=by omega
  clear hR h1;subst hR1
  go_enter Tryz.func106,Tryz.ntmps106
  go_wp2_with fail
  go_ret;exact⟨rfl,bel1 _ _⟩
def topB (k:Int):Bool:=decide (0<=k)&&decide (k<=6)
def zc2 (ts:List Int):Bool:=decide (ts.length<=4)&&ts.all topB
theorem yad2 (ts:List Int)(w:World)(a:Option Addr)(cap:Nat)(hl:ts.length<=2000000)(hp:IntsAt w a ts) :
  Calls Tryz.prog 105 #[.slice a ts.length cap] w fun e w'=>e=.returned (.bool (zc2 ts))/\Below w.heap.size w w':=by
 obtain⟨R,hR⟩:∃ R,R=zc2 ts:=⟨_,rfl⟩;rw[<- hR];unfold zc2 at hR;by_cases h2:ts.length<=4
 ·rw[decide_eq_true h2]at hR;simp only[xh]at hR;have HR:Hid (R=ts.all topB):=hR;clear hR
  go_enter Tryz.func105,Tryz.ntmps105
  go_wp2_with fail
  go_loopw [10] (fun vi wr=>∃ i:Nat,i<=ts.length/\vi=.int .i64 i/\Hid ((ts.take i).all topB=true)/\Below w.heap.size w wr) (fun i _=>ts.length-(intOf i).toNat)
  case atStart=>exact⟨0,xm _,rfl,(by show _=_;rfl),Below.refl _ _⟩
  case round =>
   obtain⟨i,hi,rfl,hn,hb⟩:=hrel;by_cases hlt:i<ts.length
   ·obtain⟨k,hki⟩:∃ k,ts[i]?=some k:=⟨ts[i],xe hlt⟩;obtain⟨b,o,rfl,c0⟩:=hp i k hki;have c0:=zab hb c0;have hbl:=zag c0;have hsn:=zed topB hki;have hno:topB k=false->R=false:=fun h=>by rw[HR.out];exact zec hki h
    rw[hn.out,xh]at hsn;have hx0 := znn i;have hx1:(i:Int)<(ts.length:Int):=by omega
    clear hki hn HR hp;by_cases hk:0<=k/\k<=6
    ·obtain⟨k0,k6⟩:=hk;have hy:Hid ((ts.take (i+1)).all topB=true):=by show _=_;rw[hsn];unfold topB;simp;omega
     clear hno hsn
     go_wp2_with fail
     go_roundw
     case rel=>exact⟨i+1,by omega,by go_num,hy,thn3 hb (bel1 _ _)⟩
     case measure=>simp[intOf];omega
    ·have hR1:=hno (by unfold topB;simp;omega);clear hno hsn;subst hR1;by_cases k0:0<=k
     ·have k6:6<k:=by omega
      clear hk
      go_wp2_with fail
      go_ret;exact⟨rfl,thn3 hb (bel1 _ _)⟩
     ·clear hk
      go_wp2_with fail
      go_ret;exact⟨rfl,thn3 hb (bel1 _ _)⟩
   ·have hR1:R=true:=by rw[HR.out,<- hn.out,xg (by omega)]
    clear HR hn;subst hR1
    go_wp2_with fail
    go_ret;exact⟨rfl,hb⟩
 ·have hR1:R=false:=by rw[hR,decide_eq_false h2];simp
  clear hR;subst hR1
  go_enter Tryz.func105,Tryz.ntmps105
  go_wp2_with fail
  go_ret;exact⟨rfl,Below.refl _ _⟩
def schB (s:ByteArray):Bool:=decide (s.size<=60)&&(pAll false s).isSome
def zc1 (ss:List ByteArray):Bool:=decide (ss.length<=8)&&ss.all schB
theorem ztk (s:ByteArray)(hs:s.size<=maxLen)(w:World):Calls Tryz.prog 176 #[.string s] w fun e w'=>∃ (k:Int) (l:ByteArray) (o:Bool) (ai af:Option Addr) (li ci lf cf:Nat),e=.returned (.tuple #[.agg #[.int .i64 k,.string l,.bool o,.slice ai li ci,.slice af lf cf],.bool (schB s)])/\Below w.heap.size w w':=by
 by_cases h:s.size<=60
 ·refine(zhg h w).mono ?_;rintro e w' ⟨h1,h2⟩;unfold schB;rw[decide_eq_true h];cases hx:pAll false s with
  |none=>rw[hx]at h1;exact⟨_,_,_,_,_,_,_,_,_,h1,h2⟩
  |some ty=>rw[hx]at h1;obtain⟨ai,li,ci,af,lf,cf,h1,_⟩:=h1;exact⟨_,_,_,_,_,_,_,_,_,h1,h2⟩
 ·have hz:schB s=false:=by unfold schB;rw[decide_eq_false h];rfl
  rw[hz];clear hz;unfold maxLen at hs
  go_enter Tryz.func176,Tryz.ntmps176
  go_wp2_with fail
  exact bodyPost_ret (v:=.tuple #[.agg #[.int .i64 0,.string qm,.bool false,.slice none 0 0,.slice none 0 0],.bool false]) (by simp[results,Tryz.results176,go_sem];rfl) rfl ⟨_,_,_,_,_,_,_,_,_,rfl,(Below.refl _ _).alloc (xy _) _⟩
theorem yab6 (ss:List ByteArray)(w:World)(a:Option Addr)(cap:Nat)(hl:ss.length<=2000000)(hz:∀ s∈ss,s.size<=maxLen)(hp:StrsAt w a ss) :
  Calls Tryz.prog 104 #[.slice a ss.length cap] w fun e w'=>e=.returned (.bool (zc1 ss))/\Below w.heap.size w w':=by
 obtain⟨R,hR⟩:∃ R,R=zc1 ss:=⟨_,rfl⟩;rw[<- hR];unfold zc1 at hR;by_cases h2:ss.length<=8
 ·rw[decide_eq_true h2]at hR;simp only[xh]at hR;have HR:Hid (R=ss.all schB):=hR;clear hR
  go_enter Tryz.func104,Tryz.ntmps104
  go_wp2_with fail
  go_loopw [12] (fun vi wr=>∃ i:Nat,i<=ss.length/\vi=.int .i64 i/\Hid ((ss.take i).all schB=true)/\Below w.heap.size w wr) (fun i _=>ss.length-(intOf i).toNat)
  case atStart=>exact⟨0,xm _,rfl,(by show _=_;rfl),Below.refl _ _⟩
  case round =>
   obtain⟨i,hi,rfl,hn,hb⟩:=hrel;by_cases hlt:i<ss.length
   ·obtain⟨s,hsi⟩:∃ s,ss[i]?=some s:=⟨ss[i],xe hlt⟩;obtain⟨b,o,rfl,c0⟩:=hp i s hsi;have c0:=zab hb c0;have hbl:=zag c0;have hcall:=fun W=>ztk s (hz s (xo hsi)) W;have hsn:=zed schB hsi;have hno:schB s=false->R=false:=fun h=>by rw[HR.out];exact zec hsi h
    rw[hn.out,xh]at hsn;generalize schB s=x at hcall hsn hno;have hx0 := znn i;have hx1:(i:Int)<(ss.length:Int):=by omega
    clear hsi hn HR hp hz;cases x with
    |false =>
     have hR1:=hno rfl;clear hno hsn;subst hR1
     go_wp2_with (go_at_call 176;refine(hcall _).mono ?_;rintro e w3 ⟨k,l,op,ai,af,li,ci,lf,cf,rfl,hb3⟩)
     go_ret;exact⟨rfl,thn3 (thn3 hb hb3) (bel1 _ _)⟩
    |true =>
     have hy:Hid ((ss.take (i+1)).all schB=true):=hsn;clear hno hsn
     go_wp2_with (go_at_call 176;refine(hcall _).mono ?_;rintro e w3 ⟨k,l,op,ai,af,li,ci,lf,cf,rfl,hb3⟩)
     go_roundw
     case rel=>exact⟨i+1,by omega,by go_num,hy,thn3 (thn3 hb hb3) (bel1 _ _)⟩
     case measure=>simp[intOf];omega
   ·have hR1:R=true:=by rw[HR.out,<- hn.out,xg (by omega)]
    clear HR hn;subst hR1
    go_wp2_with fail
    go_ret;exact⟨rfl,hb⟩
 ·have hR1:R=false:=by rw[hR,decide_eq_false h2];simp
  clear hR;subst hR1
  go_enter Tryz.func104,Tryz.ntmps104
  go_wp2_with fail
  go_ret;exact⟨rfl,Below.refl _ _⟩
end
section
open Go.RowKit
def ordB (f:zac):Bool:=zc1 f.ss&&zc2 f.ts&&zd9 f.ss.length f.ts.length f.vs
structure FleetAt (w:World)(sa:Option Addr)(sl sc:Nat)(ta:Option Addr)(tl tc:Nat)(va:Option Addr)(vl vc:Nat)(f:zac):Prop where
 s1:sl=f.ss.length
 s2:f.ss.length<=2000000
 s3:∀ s∈f.ss,s.size<=maxLen
 s4:StrsAt w sa f.ss
 t1:tl=f.ts.length
 t2:f.ts.length<=2000000
 t3:IntsAt w ta f.ts
 v1:vl=f.vs.length
 v2:f.vs.length<=2000000
 v3:SvcsAt (RelSl PinSl) w va f.vs
theorem FleetAt.keep {w w':World}(hb:Below w.heap.size w w'){sa ta va:Option Addr}{sl sc tl tc vl vc:Nat}{f:zac}(h:FleetAt w sa sl sc ta tl tc va vl vc f):FleetAt w' sa sl sc ta tl tc va vl vc f :=
 ⟨h.s1,h.s2,h.s3,h.s4.keep hb,h.t1,h.t2,h.t3.keep hb,h.v1,h.v2,h.v3.keep (fun _ _ _ _ h=>RelSl.keepP hb h) hb⟩
theorem zl6 (f:zac)(sa ta va:Option Addr)(sl sc tl tc vl vc:Nat)(w:World)(hf:FleetAt w sa sl sc ta tl tc va vl vc f) :
  Calls Tryz.prog 46 #[.agg #[.slice sa sl sc,.slice ta tl tc,.slice va vl vc]] w fun e w'=>e=.returned (.bool (ordB f))/\Below w.heap.size w w':=by
 have c1:=fun (W:World) (h:Below w.heap.size w W)=>yab6 f.ss W sa sc hf.s2 hf.s3 (hf.s4.keep h);have c2:=fun (W:World) (h:Below w.heap.size w W)=>yad2 f.ts W ta tc hf.t2 (hf.t3.keep h);have c3:=fun (W:World) (h:Below w.heap.size w W)=>yacb sl tl f.vs sa ta va sc tc vl vc (by have:=hf.s1;have:=hf.s2;omega) (by have:=hf.t1;have:=hf.t2;omega) W hf.v1 hf.v2 (hf.v3.keep (fun _ _ _ _ h'=>RelSl.keepP h h') h);rw[<- hf.s1]at c1;rw[<- hf.t1]at c2;have hr:Hid (ordB f=(zc1 f.ss&&zc2 f.ts&&zd9 sl tl f.vs)):=by show _=_;unfold ordB;rw[hf.s1,hf.t1]
 obtain⟨R,hR⟩:∃ R,R=ordB f:=⟨_,rfl⟩;rw[<- hR]at hr ⊢;generalize zc1 f.ss=x1 at c1 hr;generalize zc2 f.ts=x2 at c2 hr;generalize zd9 sl tl f.vs=x3 at c3 hr;have e0:=box3 w (.slice sa sl sc) (.slice ta tl tc) (.slice va vl vc) 26;clear hf hR;cases x1 with
 |false =>
  have hR1:R=false:=hr.out;clear hr c2 c3;subst hR1
  go_enter Tryz.func46,Tryz.ntmps46
  go_wp2_with (go_at_call 104;refine(c1 _ (bel1 _ _)).mono ?_;rintro e w1 ⟨rfl,hb1⟩;have e1:=zaq hb1 e0)
  go_ret;exact⟨rfl,thn3 (bel1 _ _) hb1⟩
 |true =>
  cases x2 with
  |false =>
   have hR1:R=false:=hr.out;clear hr c3;subst hR1
   go_enter Tryz.func46,Tryz.ntmps46
   go_wp2_with (first|(go_at_call 104;refine(c1 _ (bel1 _ _)).mono ?_;rintro e w1 ⟨rfl,hb1⟩;have e1:=zaq hb1 e0)|(go_at_call 105;refine(c2 _ (thn3 (bel1 _ _) hb1)).mono ?_;rintro e w2 ⟨rfl,hb2⟩;have e2:=zaq hb2 e1))
   go_ret;exact⟨rfl,thn3 (thn3 (bel1 _ _) hb1) hb2⟩
  |true =>
   have hR1:R=x3:=hr.out;clear hr;subst hR1;cases R<;>(
    go_enter Tryz.func46,Tryz.ntmps46
    go_wp2_with (first|(go_at_call 104;refine(c1 _ (bel1 _ _)).mono ?_;rintro e w1 ⟨rfl,hb1⟩;have e1:=zaq hb1 e0)|(go_at_call 105;refine(c2 _ (thn3 (bel1 _ _) hb1)).mono ?_;rintro e w2 ⟨rfl,hb2⟩;have e2:=zaq hb2 e1)|(go_at_call 106;refine(c3 _ (thn3 (thn3 (bel1 _ _) hb1) hb2)).mono ?_;rintro e w3 ⟨rfl,hb3⟩))
    go_ret;exact⟨rfl,thn3 (thn3 (thn3 (bel1 _ _) hb1) hb2) hb3⟩)
end
section
open Go.RowKit Go.Lib
theorem zaa {p:Prop}(h:p):Hid p:=h
def RowIs (w:World)(g:Nat)(t:TypeId)(cs:List Value):Prop:=w.heap[g]?=some (.cells cs.toArray t (0,0))
theorem Tryz.infoStrL:(Tryz.prog.info? 9).map (fun i=>(i.zero,i.size,i.bytes))=some (some (.string ⟨#[]⟩),1,16):=by kernel_rfl
theorem RowIs.cell {w:World}{g:Nat}{t:TypeId}{cs:List Value}(h:RowIs w g t cs){j:Nat}{v:Value}(hj:cs[j]?=some v):w.cell? ⟨g,j,none⟩=some v:=by
 rw[cell_of_row w g j cs.toArray t (0,0) h];simpa using hj
theorem RowIs.frozen {w:World}{g:Nat}{t:TypeId}{cs:List Value}(h:RowIs w g t cs)(j:Nat):w.frozen? ⟨g,j,none⟩=false:=frozen_of_row w g j cs.toArray t h
theorem RowIs.keep {w w':World}{g:Nat}{t:TypeId}{cs:List Value}(h:RowIs w g t cs)(hb:Below w.heap.size w w'):RowIs w' g t cs:=by
 have hg:g<w.heap.size:=by
  unfold RowIs at h;rcases qk g w.heap.size with hg|hg
  ·exact hg
  ·rw[xu (by omega)]at h;cases h
 unfold RowIs;rw[<- h];exact hb.block g hg
theorem RowIs.lt {w:World}{g:Nat}{t:TypeId}{cs:List Value}(h:RowIs w g t cs):g<w.heap.size:=by
 unfold RowIs at h;rcases qk g w.heap.size with hg|hg
 ·exact hg
 ·rw[xu (by omega)]at h;cases h
theorem RowIs.set {w:World}{g:Nat}{t:TypeId}{cs:List Value}(h:RowIs w g t cs)(j:Nat)(u:Value):RowIs (w.setCell ⟨g,j,none⟩ u) g t (cs.set j u):=by
 have:=heap_setCell_same w g j cs.toArray t u h;unfold RowIs;rw[this];simp
end
section
open Go.RowKit Go.Lib
end
section
open Go.RowKit
theorem RowIs.setOther {w:World}{g:Nat}{t:TypeId}{cs:List Value}(h:RowIs w g t cs){p:Addr}(hp:p.block≠g)(u:Value):RowIs (w.setCell p u) g t cs:=by
 unfold RowIs at h ⊢;rw[<- h];exact heap_setCell_other w p g u hp.symm
end
section
open Go.RowKit
theorem set4 {C r:List Value}{x0 x1 x2 x3 a b c d:Value}:((((C++x0::x1::x2::x3::r).set C.length a).set (C.length+1) b).set (C.length+2) c).set (C.length+3) d=(C++[a,b,c,d])++r:=by simp[List.set_append]
end
section
open Go.RowKit
end
section
open Go.RowKit
end
section
open Go.RowKit Go.Lib
theorem Tryz.infoMvL:(Tryz.prog.info? 62).map (fun i=>(i.zero,i.size,i.bytes))=some (some (.agg #[.int .i64 0,.int .i64 0]),2,16):=by kernel_rfl
def MvsAt (w:World)(a:Option Addr)(ms:List (Int×Int)):Prop:=∀ i m,ms[i]?=some m->∃ b o,a=some ⟨b,o,none⟩/\w.cell? ⟨b,o+i*2,none⟩=some (.int .i64 m.1)/\w.cell? ⟨b,o+i*2+1,none⟩=some (.int .i64 m.2)
def mvC (ms:List (Int×Int)):List Value:=ms.flatMap fun m=>[.int .i64 m.1,.int .i64 m.2]
theorem zpl:∀ ms:List (Int×Int),(mvC ms).length=ms.length*2
 |[]=>rfl
 |p::ms=>by rw[mvC,qe,List.length_append];have:=zpl ms;rw[mvC]at this;rw[this,List.length_cons];simp;omega
theorem zkt:∀ (ms:List (Int×Int)) (j:Nat),(mvC ms)[j]?=match ms[j / 2]? with|some m=>some (if j % 2=0 then .int .i64 m.1 else .int .i64 m.2)|none=>none
 |[],j=>by simp[mvC]
 |p::ms,j=>by
  rw[mvC,qe];by_cases h:j<2
  ·rw[xj (by simpa using h),show j / 2=0 by omega];obtain rfl|rfl:j=0\/j=1:=by omega
   all_goals rfl
  ·have:=zkt ms (j-2);rw[mvC]at this;rw[List.getElem?_append_right (by simp;omega),show j - [Value.int .i64 p.1,.int .i64 p.2].length=j-2 from rfl,this,show j / 2=(j-2) / 2+1 by omega,List.getElem?_cons_succ,show (j-2) % 2=j % 2 by omega]
theorem zyh {ms:List (Int×Int)}{i:Nat}{m:Int×Int}(h:ms[i]?=some m)(r:List Value):(mvC ms++r)[i*2]?=some (.int .i64 m.1)/\(mvC ms++r)[i*2+1]?=some (.int .i64 m.2):=by
 have hl:=(List.getElem?_eq_some_iff.1 h).1;have hc:=zpl ms;refine⟨?_,?_⟩
 ·rw[xj (by omega),zkt,show i*2 / 2=i by omega,h];simp
 ·rw[xj (by omega),zkt,show (i*2+1) / 2=i by omega,h,show (i*2+1) % 2=1 by omega];simp
end
section
open Go.RowKit
def hasI (now:Int)(ms:List (Int×Int))(s:Int):Nat->Int
 |0=>now
 |j+1=>if (ms.getD j (-1,0)).1=s then (ms.getD j (-1,0)).2 else hasI now ms s j
theorem MvsAt.keep {w w':World}(hb:Below w.heap.size w w'){a:Option Addr}{ms:List (Int×Int)}(h:MvsAt w a ms):MvsAt w' a ms:=fun i m hi=>by
 obtain⟨b,o,h1,h2,h3⟩:=h i m hi;exact⟨b,o,h1,zab hb h2,zab hb h3⟩
end
section
open Go.RowKit
theorem RowIs.ne {w:World}{b b':Nat}{t t':TypeId}{cs cs':List Value}(h:RowIs w b t cs)(h':RowIs w b' t' cs')(ht:t≠t'):b≠b':=fun e=>by
 subst e;unfold RowIs at h h';rw[h]at h';simp at h';exact ht h'.2
theorem zza {w:World}{base size n b:Nat}{e t:TypeId}{v:Value}{xs cs:List Value}(h:w.ownsRow base e size v n xs)(h':RowIs w b t cs)(ht:t≠e):v.ownBlock≠some b:=fun hv=>by
 obtain⟨hl,h|⟨g',cap',cur,hv',hb,hh,hc,hm,hs,ht'⟩⟩:=h
 ·obtain⟨h,_⟩:=h;rw[h]at hv;cases hv
 ·rw[hv']at hv;have hg:g'=b:=by simpa[Value.ownBlock]using hv
  subst hg;unfold RowIs at h';rw[h']at hh;simp at hh;exact ht hh.2
theorem RowIs.grown {w w':World}{b:Nat}{t:TypeId}{cs:List Value}{row:Option Nat}(h:RowIs w b t cs)(hg:w.grownBy w' row)(hne:row≠some b):RowIs w' b t cs:=by
 have hlt:=h.lt;unfold RowIs at h ⊢;rw[hg.block b hlt (fun e=>hne e.symm)];exact h
end
section
open Go.RowKit
structure Chg (S:Nat->Prop)(w w':World):Prop where
 os:w'.os=w.os
 tape:w'.tape=w.tape
 output:w'.output=w.output
 size:w.heap.size<=w'.heap.size
 block:∀ k,k<w.heap.size->¬ S k->w'.heap[k]?=w.heap[k]?
theorem Chg.refl (S:Nat->Prop)(w:World):Chg S w w:=⟨rfl,rfl,rfl,xy _,fun _ _ _=>rfl⟩
theorem Chg.trans {S:Nat->Prop}{a b c:World}(h:Chg S a b)(k:Chg S b c):Chg S a c :=
 ⟨k.os.trans h.os,k.tape.trans h.tape,k.output.trans h.output,xz h.size k.size,fun i hi hs=>(k.block i (xp hi h.size) hs).trans (h.block i hi hs)⟩
theorem Chg.mono {S T:Nat->Prop}{w w':World}(h:Chg S w w')(hS:∀ k,S k->T k):Chg T w w':=⟨h.os,h.tape,h.output,h.size,fun k hk ht=>h.block k hk fun hs=>ht (hS k hs)⟩
theorem Chg.of {S:Nat->Prop}{w w':World}(h:Below w.heap.size w w'):Chg S w w':=⟨h.os,h.tape,h.output,h.size,fun k hk _=>h.block k hk⟩
theorem Chg.bel {S:Nat->Prop}{w w':World}{B:Nat}(h:Chg S w w')(hB:B<=w.heap.size)(hS:∀ k,k<B->¬ S k):Below B w w':=⟨h.os,h.tape,h.output,h.size,fun k hk=>h.block k (xp hk hB) (hS k hk)⟩
theorem Chg.set {S:Nat->Prop}{a w:World}(h:Chg S a w){p:Addr}(hp:S p.block\/a.heap.size<=p.block)(u:Value):Chg S a (w.setCell p u) :=
 ⟨h.os,h.tape,h.output,xz h.size (by simp[World.setCell]),fun k hk hs=>(Below.heap_setCell _ _ _ _ (fun e=>by rcases hp with q|q;exact hs (e ▸ q);omega)).trans (h.block k hk hs)⟩
theorem Chg.alloc {S:Nat->Prop}{a w:World}(h:Chg S a w)(o:Obj):Chg S a (w.alloc o):=h.trans (Chg.of (bel1 _ _))
theorem Chg.grown {S:Nat->Prop}{a w w':World}{row:Option Nat}(h:Chg S a w)(hg:w.grownBy w' row)(hr:∀ k,row=some k->S k\/a.heap.size<=k):Chg S a w' :=
 ⟨hg.os.trans h.os,hg.tape.trans h.tape,hg.output.trans h.output,xz h.size hg.size,fun k hk hs=>(hg.block k (xp hk h.size) (fun e=>by rcases hr k e.symm with q|q;exact hs q;omega)).trans (h.block k hk hs)⟩
theorem Chg.row {S:Nat->Prop}{w w':World}(h:Chg S w w'){g:Nat}{t:TypeId}{cs:List Value}(hr:RowIs w g t cs)(hg:¬ S g):RowIs w' g t cs:=by
 have:=h.block g hr.lt hg;unfold RowIs at hr ⊢;rw[this];exact hr
theorem Chg.cell {S:Nat->Prop}{w w':World}(h:Chg S w w'){b o:Nat}{v:Value}(hb:¬ S b)(hc:w.cell? ⟨b,o,none⟩=some v):w'.cell? ⟨b,o,none⟩=some v:=by
 rw[World.cell?_of_block (w:=w) (a:=⟨b,o,none⟩) (h.block b (zag hc) hb)];exact hc
structure MsgD where
 k:Int
 n:Int
 s:Int
 i:Int
 r:Int
structure TskD where
 s:Int
 z:Int
 b:Int
 r:Int
structure CtlD where
 ts:List TskD
 rest:Int
 st:Int
 pos:Int
 wk:Bool
 pa:Bool
 un:Int
 nu:Int
 ba:Int
 a0:Bool
 a1:Bool
 a2:Bool
def zbr (c:CtlD):CtlD:=if c.st=1/\(c.ts.length:Int)<=c.pos then { c with st:=3 } else c
def zcr (c:CtlD):CtlD:=if c.st=2/\c.pos<=0 then { c with st:=4 } else c
def zat (c:CtlD):CtlD:=zcr (zbr c)
def zaj (c:CtlD):Bool:=decide (c.st=3\/c.st=4)
def begC (c:CtlD):CtlD:={ c with wk:=true,ba:=c.nu,a0:=false,a1:=false,a2:=false }
def numC (c:CtlD):Int:=if c.st=2 then c.pos-1 else c.pos
def tsk0:TskD:=⟨0,0,0,0⟩
def curT (c:CtlD):TskD:=if numB (numC c) c.ts.length then (if c.st=2 then { c.ts.getD (numC c).toNat tsk0 with r:=(c.ts.getD (numC c).toNat tsk0).b } else c.ts.getD (numC c).toNat tsk0) else tsk0
def frst (a0 a1 a2:Bool)(z:Int):Int:=if 0<z/\a0=false then 0 else if 1<z/\a1=false then 1 else if 2<z/\a2=false then 2 else z
def msg0:MsgD:=⟨0,0,0,0,0⟩
def cmdB (c:CtlD):Bool:=decide (frst c.a0 c.a1 c.a2 (curT c).z<(curT c).z)
def cmdC (c:CtlD):CtlD:=if cmdB c then { c with nu:=c.nu+1 } else c
def cmdM (c:CtlD):MsgD:=if cmdB c then ⟨1,c.nu+1,(curT c).s,frst c.a0 c.a1 c.a2 (curT c).z,(curT c).r⟩ else msg0
def actA (c:CtlD)(time:Int):CtlD:=if c.wk=false/\c.un<=time then begC c else c
def actB (c:CtlD)(time:Int):Bool:=!(c.pa||zaj c)&&(actA c time).wk&&cmdB (actA c time)
def actC (c:CtlD)(time:Int):CtlD:=if c.pa||zaj c then c else if (actA c time).wk then cmdC (actA c time) else actA c time
def actM (c:CtlD)(time:Int):MsgD:=if c.pa||zaj c then msg0 else if (actA c time).wk then cmdM (actA c time) else msg0
def finC (c:CtlD)(time:Int):CtlD:=zat { c with wk:=false,pos:=(if c.st=2 then c.pos-1 else c.pos+1),un:=time+c.rest }
def ansC (c:CtlD)(i:Int):CtlD:={ c with a0:=c.a0||decide (i=0),a1:=c.a1||decide (i=1),a2:=c.a2||decide (i=2) }
def earB (c:CtlD)(m:MsgD):Bool:=c.wk&&decide (c.ba<m.n)&&numB m.i 3
def za4 (c:CtlD)(m:MsgD)(time:Int):CtlD:=if earB c m then (if frst (ansC c m.i).a0 (ansC c m.i).a1 (ansC c m.i).a2 (curT (ansC c m.i)).z=(curT (ansC c m.i)).z then finC (ansC c m.i) time else ansC c m.i) else c
def zc9 (c:CtlD):CtlD:=zat (if c.wk then begC { c with st:=2,pos:=c.pos+1 } else { c with st:=2 })
def crsC (c:CtlD)(time:Int):CtlD:=if zaj c then c else if c.wk then begC c else { c with un:=time+c.rest }
def RunC (ti:Int)(ta:Value)(c:CtlD)(m v t s:Value):List Value:=[.int .i64 ti,ta,.int .i64 c.rest,.int .i64 c.st,.int .i64 c.pos,.bool c.wk,.bool c.pa,.int .i64 c.un,.int .i64 c.nu,.int .i64 c.ba,.bool c.a0,.bool c.a1,.bool c.a2,m,v,t,s]
def TsksAt (w:World)(g:Nat)(ts:List TskD):Prop:=∀ i t,ts[i]?=some t->w.cell? ⟨g,i*4,none⟩=some (.int .i64 t.s)/\w.cell? ⟨g,i*4+1,none⟩=some (.int .i64 t.z)/\w.cell? ⟨g,i*4+2,none⟩=some (.int .i64 t.b)/\w.cell? ⟨g,i*4+3,none⟩=some (.int .i64 t.r)
theorem TsksAt.chg {S:Nat->Prop}{w w':World}(h:Chg S w w'){g:Nat}{ts:List TskD}(ht:TsksAt w g ts)(hg:¬ S g):TsksAt w' g ts:=fun i t hi=>by
 obtain⟨a,b,c,d⟩:=ht i t hi;exact⟨h.cell hg a,h.cell hg b,h.cell hg c,h.cell hg d⟩
end
section
open Go.RowKit
theorem Tryz.infoSet:(Tryz.prog.info? 111).map (·.size)=some 9:=by kernel_rfl
theorem zgx {P:Program}{w:World}(t e:TypeId)(d:TypeDesc)(n:Nat)(cs:Array Value)(k:IntKind)(i:Nat)(h:P.underlying t=some (.array n e))(hs:(P.info? e).map (·.size)=some 1)(he:P.underlying e=some d)(hd:∀ fs,d≠.struct fs)(hd2:∀ m u,d≠.array m u)(hin:i<n)(v:Value)(hv:cs[i]?=some v) :
  (Instr.index t (.agg cs) (.int k i)).run P w=.ok v w:=by
 have hn:(0<=(i:Int)/\(i:Int)<(n:Int)):=by omega
 cases hq:P.info? e with
 |none=>simp[hq]at hs
 |some ii =>
  have hi:ii.size=1:=by simpa[hq]using hs
  have hag:(isAgg e).run P w=.ok false w:=by
   unfold isAgg;rw[Sem.run_bind,run_underlying he w];cases d<;>simp_all
  simp[Instr.index,run_underlying h,asIntOf,hn,go_sem,sizeOf,typeInfo,hq,hi,hin,hag,hv]
theorem Tryz.infoBool:(Tryz.prog.info? 4).map (·.size)=some 1:=by kernel_rfl
theorem zal (w:World)(o:Obj):(w.alloc o).heap[w.heap.size]?=some o:=by show (w.heap.push o)[w.heap.size]?=some o;simp
theorem zbl {w:World}{b:Nat}{t:TypeId}{cs:List Value}(h:w.heap[b]?=some (.cells cs.toArray t (0,0))):w.rangeAt b 0 cs:=fun j v hj=>by
 rw[qj];simp only[World.cell?,h];simpa using hj
theorem zaf {w w':World}(hb:Below w.heap.size w w'){b o:Nat}{cs:List Value}(h:w.rangeAt b o cs):w'.rangeAt b o cs:=fun j v hj=>by
 have h1:=h j v hj;rw[hb.cell (p:=⟨b,o+j,none⟩) (World.block_lt_of_cell? w ⟨b,o+j,none⟩ h1)];exact h1
theorem belS (w:World)(o:Obj):Below w.heap.size w (w.alloc o):=(Below.refl _ _).alloc (xy _) _
def algB (xs ys:List Bool):Bool:=(xf 9).all fun i=>!(xs.getD i false)||ys.getD i false
theorem zmu (F:Nat->Bool)(x:Nat):(xf (x+1)).all F=((xf x).all F&&F x):=by rw[qh,xv];simp
theorem zjk {F:Nat->Bool}{x n:Nat}(hx:x<n)(h:F x=false):(xf n).all F=false:=by
 cases hc:(xf n).all F with
 |false=>rfl
 |true=>rw[xq]at hc;rw[hc x (qi.2 hx)]at h;cases h
theorem zjj (xs ys:List Bool)(hx:xs.length=9)(hy:ys.length=9)(w:World) :
  Calls Tryz.prog 110 #[.agg (xs.map Value.bool).toArray,.agg (ys.map Value.bool).toArray] w fun e W=>e=.returned (.bool (algB xs ys))/\Below w.heap.size w W:=by
 have hr:=zaf (belS _ (.cells (ys.map Value.bool).toArray 111)) (zbl (zal w (.cells (xs.map Value.bool).toArray 111)));have hq:=zbl (zal (w.alloc (.cells (xs.map Value.bool).toArray 111)) (.cells (ys.map Value.bool).toArray 111));rw[show (w.alloc (.cells (xs.map Value.bool).toArray 111)).heap.size=w.heap.size+1 by simp]at hq;have hi:(Tryz.prog.info? 111).map (·.size)=some (xs.map Value.bool).length:=by rw[List.length_map,hx];exact Tryz.infoSet
 have hB:=(belS w (.cells (xs.map Value.bool).toArray 111)).alloc (by simp) (.cells (ys.map Value.bool).toArray 111);obtain⟨R,hR⟩:∃ R,R=algB xs ys:=⟨_,rfl⟩;rw[<- hR];have HR:Hid (R=(xf 9).all fun i=>!(xs.getD i false)||ys.getD i false):=hR;have HX:Hid (xs.length=9):=hx;have HY:Hid (ys.length=9):=hy;clear hR hx hy
 go_enter Tryz.func110,Tryz.ntmps110
 go_wp2_with (refine wpList_load_mid (w:=(w.alloc (.cells (xs.map Value.bool).toArray 111)).alloc (.cells (ys.map Value.bool).toArray 111)) rfl 111 _ rfl _ _ rfl (xs.map Value.bool) _ hr Tryz.underlying111 rfl hi ?_)
 go_loopw [8] (fun vi wr=>∃ i:Nat,i<=9/\vi=.int .i64 i/\Hid ((xf i).all (fun i=>!(xs.getD i false)||ys.getD i false)=true)/\wr=(w.alloc (.cells (xs.map Value.bool).toArray 111)).alloc (.cells (ys.map Value.bool).toArray 111)) (fun i _=>9-(intOf i).toNat)
 case atStart=>exact⟨0,by omega,rfl,(by show _=_;rfl),rfl⟩
 case round =>
  obtain⟨i,hi9,rfl,hn,rfl⟩:=hrel;by_cases hlt:i<9
  ·obtain⟨x,hxi⟩:∃ x,xs[i]?=some x:=⟨xs[i]'(by rw[HX.out];omega),xe (by rw[HX.out];omega)⟩;obtain⟨y,hyi⟩:∃ y,ys[i]?=some y:=⟨ys[i]'(by rw[HY.out];omega),xe (by rw[HY.out];omega)⟩;have hc:=hq i (.bool y) (by rw[List.getElem?_map,hyi];rfl);rw[qj]at hc;have hx0 := znn i;have hx1:(i:Int)<9:=by omega
   have hidx:=fun W=>zgx (P:=Tryz.prog) (w:=W) 111 4 .bool 9 (xs.map Value.bool).toArray .i64 i Tryz.underlying111 Tryz.infoBool Tryz.underlying4 (fun _ h=>by cases h) (fun _ _ h=>by cases h) hlt (.bool x) (by simp[hxi]);have hFx:(!(xs.getD i false)||ys.getD i false)=(!x||y):=by simp[List.getD,hxi,hyi]
   have hno:(!x||y)=false->R=false:=fun h=>by rw[HR.out];exact zjk hlt (by rw[hFx];exact h)
   have hyes:(!x||y)=true->Hid ((xf (i+1)).all (fun i=>!(xs.getD i false)||ys.getD i false)=true):=fun h=>by show _=_;rw[zmu,hn.out,hFx,h];rfl
   clear hFx hn hxi hyi hq HR;cases x with
   |true =>
    cases y with
    |true =>
     have hy':=hyes rfl;clear hno hyes
     go_wp2_with fail
     go_roundw
     case rel=>exact⟨i+1,by omega,by go_num,hy',trivial⟩
     case measure=>simp[intOf];omega
    |false =>
     have hR1:=hno rfl;clear hno hyes;subst hR1
     go_wp2_with fail
     go_ret;exact⟨rfl,hB⟩
   |false =>
    have hy':=hyes rfl;clear hno hyes
    go_wp2_with fail
    go_roundw
    case rel=>exact⟨i+1,by omega,by go_num,hy',trivial⟩
    case measure=>simp[intOf];omega
  ·have hR1:R=true:=by rw[HR.out,<- hn.out,show i=9 by omega]
   clear HR hn;subst hR1
   go_wp2_with fail
   go_ret;exact⟨rfl,hB⟩
end
end Go.Proofs.YtkkekopomiehlabGreatDoor
