import Derived.Test.YtkkekopomiehlaaGreatCRf1
import Derived.Test.YtkkekopomiehlaaGreatCWt1
set_option linter.unusedVariables false
set_option linter.unusedSimpArgs false
set_option maxHeartbeats 40000000
set_option maxRecDepth 4000
namespace Go.Proofs.YtkkekopomiehlaaGreat
section
open Go.RowKit
theorem box4 (w : World) (v0 v1 v2 v3 : Value) (t : TypeId) : (w.alloc (.cells #[v0,v1,v2,v3] t)).cell? ⟨w.heap.size,0,none⟩ = some v0 /\ (w.alloc (.cells #[v0,v1,v2,v3] t)).cell? ⟨w.heap.size,1,none⟩ = some v1 /\ (w.alloc (.cells #[v0,v1,v2,v3] t)).cell? ⟨w.heap.size,2,none⟩ = some v2 /\ (w.alloc (.cells #[v0,v1,v2,v3] t)).cell? ⟨w.heap.size,3,none⟩ = some v3 :=
 ⟨za5 rfl rfl,za5 rfl rfl,za5 rfl rfl,za5 rfl rfl⟩
def zdf (ns nt : Nat) (v : SvcD) : Bool:=(decide (1 <= v.size) && decide (v.size <= 3) && decide (v.rels.length <= 3)) && (numB v.now v.rels.length && numB v.want v.rels.length) && v.rels.all (zcn ns nt)
def zg1 (f : zae) : Bool:=(decide (f.ss.length <= 8) && decide (f.ts.length <= 4) && decide (1 <= f.vs.length) && decide (f.vs.length <= 3)) && (f.ss.all fun s => chk true s == 0) && f.ts.all topB && f.vs.all (zdf f.ss.length f.ts.length)
theorem zx8 (f : zae) : zg1 f = ordB f:=by
 have h1 : (fun s => chk true s == 0) = schB:=by
  funext s
  unfold chk schB
  rw [zif]
  by_cases h : 60 < s.size
  ·rw [if_pos h,decide_eq_false (by omega)];rfl
  ·rw [if_neg h,decide_eq_true (by omega)]
   cases (pAll false s).isSome <;> rfl
 have h2 : ∀ ns nt,zdf ns nt = svcB ns nt:=fun ns nt => by
  funext v
  unfold zdf svcB
  rw [show zcn ns nt = zb9 ns nt from funext fun ps => zye ns nt ps]
  rw [Bool.eq_iff_iff]
  simp only [Bool.and_eq_true,decide_eq_true_eq,numB]
  constructor
  ·rintro ⟨⟨⟨⟨a,b⟩,c⟩,⟨d,e⟩,g⟩,h⟩
   exact ⟨⟨⟨⟨⟨⟨a,b⟩,by omega⟩,c⟩,⟨d,e⟩⟩,g⟩,h⟩
  ·rintro ⟨⟨⟨⟨⟨⟨a,b⟩,i⟩,c⟩,⟨d,e⟩⟩,g⟩,h⟩
   exact ⟨⟨⟨⟨a,b⟩,c⟩,⟨d,e⟩,g⟩,h⟩
 unfold zg1 ordB zc5 zei zeh
 rw [h1,h2]
 rw [Bool.eq_iff_iff]
 simp only [Bool.and_eq_true]
 constructor
 ·rintro ⟨⟨⟨⟨⟨⟨a,b⟩,c⟩,d⟩,e⟩,g⟩,h⟩
  exact ⟨⟨⟨a,e⟩,b,g⟩,⟨c,d⟩,h⟩
 ·rintro ⟨⟨⟨a,e⟩,b,g⟩,⟨c,d⟩,h⟩
  exact ⟨⟨⟨⟨⟨⟨a,b⟩,c⟩,d⟩,e⟩,g⟩,h⟩
theorem zxy (f : zae) (sa ta va : Option Addr) (sl sc tl tc vl vc : Nat) (w : World) (hf : FleetAt w sa sl sc ta tl tc va vl vc f) :
  Calls Tryz.prog 28 #[.agg #[.slice sa sl sc,.slice ta tl tc,.slice va vl vc]] w fun e w' => e = .returned (.bool (zg1 f)) /\ Below w.heap.size w w':=by
 obtain ⟨s1,s2,s3,s4,t1,t2,t3,v1,v2,v3⟩:=hf
 obtain ⟨ss,ts,vs⟩:=f
 simp only at s1 s2 s3 s4 t1 t2 t3 v1 v2 v3
 obtain ⟨R,hR⟩ : ∃ R,R = zg1 ⟨ss,ts,vs⟩:=⟨_,rfl⟩
 rw [<- hR]
 unfold zg1 at hR
 simp only at hR
 by_cases g1 : sl <= 8 /\ tl <= 4 /\ 1 <= vl /\ vl <= 3
 ·obtain ⟨g1,g2,g3,g4⟩:=g1
  rw [<- s1,<- t1,<- v1,decide_eq_true g1,decide_eq_true g2,decide_eq_true g3,decide_eq_true g4] at hR
  simp only [Bool.true_and] at hR
  have HR : Hid (R = ((ss.all fun s => chk true s == 0) && ts.all topB && vs.all (zdf sl tl))):=hR
  clear hR
  have n1 : ∀ (i : Nat) (s : ByteArray),ss[i]? = some s -> (chk true s == 0) = false -> R = false:=fun i s h1 h2 => by rw [HR.out,zca h1 h2];rfl
  have n2 : ∀ (i : Nat) (k : Int),ts[i]? = some k -> topB k = false -> R = false:=fun i s h1 h2 => by rw [HR.out,zca h1 h2];simp
  have n3 : ∀ (i : Nat) (v : SvcD),vs[i]? = some v -> zdf sl tl v = false -> R = false:=fun i s h1 h2 => by rw [HR.out,zca h1 h2];simp
  have N1:=(show Hid _ from n1)
  have N2:=(show Hid _ from n2)
  have N3:=(show Hid _ from n3)
  have S4:=(show Hid _ from s4)
  have T3:=(show Hid _ from t3)
  have V3:=(show Hid _ from v3)
  have S3:=(show Hid _ from s3)
  clear n1 n2 n3 s4 t3 v3 s3
  obtain ⟨s1a,s1b⟩ : sl <= ss.length /\ ss.length <= sl:=by omega
  obtain ⟨t1a,t1b⟩ : tl <= ts.length /\ ts.length <= tl:=by omega
  obtain ⟨v1a,v1b⟩ : vl <= vs.length /\ vs.length <= vl:=by omega
  have hslN : sl <= 2000000:=by omega
  have htlN : tl <= 2000000:=by omega
  clear s1 t1 v1
  go_enter Tryz.func28,Tryz.ntmps28
  go_wp2_with fail
  go_loopw [3] (fun vi wr => ∃ i : Nat,i <= sl /\ vi = .int .i64 i /\ Hid ((ss.take i).all (fun s => chk true s == 0) = true) /\ Below (w.alloc (.cells #[.slice sa sl sc,.slice ta tl tc,.slice va vl vc] 26)).heap.size (w.alloc (.cells #[.slice sa sl sc,.slice ta tl tc,.slice va vl vc] 26)) wr) (fun i _ => sl - (intOf i).toNat)
  case atStart => exact ⟨0,Nat.zero_le _,rfl,(by show _ = _;rfl),Below.refl _ _⟩
  case round =>
   obtain ⟨i,hi,rfl,hn,hb⟩:=hrel
   have hbw:=thn3 (bel1 _ _) hb
   obtain ⟨f0,f1,f2⟩:=zak hb (box3 w _ _ _ _)
   have hfl : w.heap.size < wr.heap.size:=zaf f0
   have hx0 := znn i
   by_cases hlt : i < sl
   ·obtain ⟨s,hsi⟩ : ∃ s,ss[i]? = some s:=⟨ss[i],List.getElem?_eq_getElem (by omega)⟩
    obtain ⟨b,o,rfl,c0⟩:=S4.out i s hsi
    have c0:=zaa hbw c0
    have hbl:=zaf c0
    have hcall:=fun W => zlf s (S3.out s (List.mem_of_getElem? hsi)) W
    have hsn:=zcb (fun s => chk true s == 0) hsi
    rw [hn.out,Bool.true_and] at hsn
    have hno:=N1.out i s hsi
    have hx1 : (i : Int) < (sl : Int):=by omega
    generalize chk true s = k at hcall hsn hno
    clear hsi hn HR
    by_cases hk : k = 0
    ·subst hk
     have hy : Hid ((ss.take (i + 1)).all (fun s => chk true s == 0) = true):=hsn
     clear hsn hno
     go_wp2_with fail
     (first | go_region_held3 (fun w' => (w'.cell? ⟨w.heap.size,0,none⟩ = some (.slice (some ⟨b,o,none⟩) sl sc) /\ w'.cell? ⟨w.heap.size,1,none⟩ = some (.slice ta tl tc) /\ w'.cell? ⟨w.heap.size,2,none⟩ = some (.slice va vl vc)) /\ w'.cell? ⟨b,o + i,none⟩ = some (.string s)) (go_keep) (first | (go_at_call 54;refine (hcall _).mono ?_;rintro e w3 ⟨rfl,hb3⟩;have e3:=zak hb3 ⟨f0,f1,f2⟩;have e4:=zaa hb3 c0)) | (go_at_call 54;refine (hcall _).mono ?_;rintro e w3 ⟨rfl,hb3⟩))
     go_wp2_with fail
     go_roundw
     case rel => first | exact ⟨i + 1,by omega,by go_num,hy,thn3 hb.drew hb3⟩ | exact ⟨i + 1,by omega,by go_num,hy,thn3 hb hb3⟩
     case measure => simp [intOf];omega
    ·have hk' : (k == 0) = false:=by simp [hk]
     have hk2 : (k != 0) = true:=by simp [hk]
     have hR1:=hno hk'
     clear hsn hno hk
     subst hR1
     go_wp2_with fail
     (first | go_region_held3 (fun w' => (w'.cell? ⟨w.heap.size,0,none⟩ = some (.slice (some ⟨b,o,none⟩) sl sc) /\ w'.cell? ⟨w.heap.size,1,none⟩ = some (.slice ta tl tc) /\ w'.cell? ⟨w.heap.size,2,none⟩ = some (.slice va vl vc)) /\ w'.cell? ⟨b,o + i,none⟩ = some (.string s)) (go_keep) (first | (go_at_call 54;refine (hcall _).mono ?_;rintro e w3 ⟨rfl,hb3⟩;have e3:=zak hb3 ⟨f0,f1,f2⟩;have e4:=zaa hb3 c0)) | (go_at_call 54;refine (hcall _).mono ?_;rintro e w3 ⟨rfl,hb3⟩))
     go_wp2_with fail
     go_ret
     first | exact ⟨rfl,thn3 hbw.drew hb3⟩ | exact ⟨rfl,thn3 hbw hb3⟩
   ·have hA : ss.all (fun s => chk true s == 0) = true:=by have:=hn.out;rw [List.take_of_length_le (by omega)] at this;exact this
    have HR2 : Hid (R = (ts.all topB && vs.all (zdf sl tl))):=by show _ = _;rw [HR.out,hA];rfl
    clear HR hn hA hx0
    go_wp2_with fail
    go_loopw [5] (fun vi wr => ∃ i : Nat,i <= tl /\ vi = .int .i64 i /\ Hid ((ts.take i).all topB = true) /\ Below (w.alloc (.cells #[.slice sa sl sc,.slice ta tl tc,.slice va vl vc] 26)).heap.size (w.alloc (.cells #[.slice sa sl sc,.slice ta tl tc,.slice va vl vc] 26)) wr) (fun i _ => tl - (intOf i).toNat)
    case atStart => exact ⟨0,Nat.zero_le _,rfl,(by show _ = _;rfl),hb⟩
    case round =>
     clear hi f0 f1 f2 hfl hlt hbw hb
     obtain ⟨i,hi,rfl,hn,hb⟩:=hrel
     have hbw:=thn3 (bel1 _ _) hb
     obtain ⟨f0,f1,f2⟩:=zak hb (box3 w _ _ _ _)
     have hfl : w.heap.size < wr.heap.size:=zaf f0
     have hx0 := znn i
     by_cases hlt : i < tl
     ·obtain ⟨k,hki⟩ : ∃ k,ts[i]? = some k:=⟨ts[i],List.getElem?_eq_getElem (by omega)⟩
      obtain ⟨b,o,rfl,c0⟩:=T3.out i k hki
      have c0:=zaa hbw c0
      have hbl:=zaf c0
      have hsn:=zcb topB hki
      rw [hn.out,Bool.true_and] at hsn
      have hno:=N2.out i k hki
      have hx1 : (i : Int) < (tl : Int):=by omega
      clear hki hn HR2
      by_cases hk0 : 0 <= k
      ·by_cases hk6 : k <= 6
       ·have hy : Hid ((ts.take (i + 1)).all topB = true):=by show _ = _;rw [hsn];unfold topB;simp;omega
        clear hsn hno
        go_wp2_with fail
        (first | go_region_held3 (fun w' => (w'.cell? ⟨w.heap.size,0,none⟩ = some (.slice sa sl sc) /\ w'.cell? ⟨w.heap.size,1,none⟩ = some (.slice (some ⟨b,o,none⟩) tl tc) /\ w'.cell? ⟨w.heap.size,2,none⟩ = some (.slice va vl vc)) /\ w'.cell? ⟨b,o + i,none⟩ = some (.int .i64 k)) (go_keep) (fail) | skip)
        go_wp2_with fail
        go_roundw
        case rel => first | exact ⟨i + 1,by omega,by go_num,hy,hb.drew⟩ | exact ⟨i + 1,by omega,by go_num,hy,hb⟩
        case measure => simp [intOf];omega
       ·have hR1:=hno (by unfold topB;simp;omega)
        clear hsn hno
        subst hR1
        go_wp2_with fail
        (first | go_region_held3 (fun w' => (w'.cell? ⟨w.heap.size,0,none⟩ = some (.slice sa sl sc) /\ w'.cell? ⟨w.heap.size,1,none⟩ = some (.slice (some ⟨b,o,none⟩) tl tc) /\ w'.cell? ⟨w.heap.size,2,none⟩ = some (.slice va vl vc)) /\ w'.cell? ⟨b,o + i,none⟩ = some (.int .i64 k)) (go_keep) (fail) | skip)
        go_wp2_with fail
        go_ret
        first | exact ⟨rfl,hbw.drew⟩ | exact ⟨rfl,hbw⟩
      ·have hR1:=hno (by unfold topB;simp;omega)
       clear hsn hno
       subst hR1
       go_wp2_with fail
       (first | go_region_with (fail) | skip)
       all_goals
        go_wp2_with fail
        go_ret
        first | exact ⟨rfl,hbw.drew⟩ | exact ⟨rfl,hbw⟩
     ·have hA : ts.all topB = true:=by have:=hn.out;rw [List.take_of_length_le (by omega)] at this;exact this
      have HR3 : Hid (R = vs.all (zdf sl tl)):=by show _ = _;rw [HR2.out,hA];rfl
      clear HR2 hn hA hx0
      go_wp2_with fail
      go_loopw [6] (fun vi wr => ∃ i : Nat,i <= vl /\ vi = .int .i64 i /\ Hid ((vs.take i).all (zdf sl tl) = true) /\ Below (w.alloc (.cells #[.slice sa sl sc,.slice ta tl tc,.slice va vl vc] 26)).heap.size (w.alloc (.cells #[.slice sa sl sc,.slice ta tl tc,.slice va vl vc] 26)) wr) (fun i _ => vl - (intOf i).toNat)
      case atStart => exact ⟨0,Nat.zero_le _,rfl,(by show _ = _;rfl),hb⟩
      case round =>
       clear hi f0 f1 f2 hfl hlt hbw hb
       obtain ⟨i,hi,rfl,hn,hb⟩:=hrel
       rename World => w5
       have hbw:=thn3 (bel1 _ _) hb
       obtain ⟨f0,f1,f2⟩:=zak hb (box3 w _ _ _ _)
       have hfl : w.heap.size < w5.heap.size:=zaf f0
       have hx0 := znn i
       by_cases hlt : i < vl
       ·obtain ⟨v,hvi⟩ : ∃ v,vs[i]? = some v:=⟨vs[i],List.getElem?_eq_getElem (by omega)⟩
        obtain ⟨b,o,ra,rl,rc,rfl,c0,c1,c2,c3,hrs⟩:=V3.out i v hvi
        have c0:=zaa hbw c0
        have c1:=zaa hbw c1
        have c2:=zaa hbw c2
        have c3:=zaa hbw c3
        have hbl:=zaf c0
        have hsn:=zcb (zdf sl tl) hvi
        rw [hn.out,Bool.true_and] at hsn
        have hno:=N3.out i v hvi
        have hx1 : (i : Int) < (vl : Int):=by omega
        clear hvi hn HR3
        obtain ⟨sz,nw,wn,rels⟩:=v
        simp only at c0 c1 c2 c3 hrs
        obtain ⟨r1,r2,r3,r4,r5⟩:=hrs
        obtain ⟨r1a,r1b⟩ : rl <= rels.length /\ rels.length <= rl:=by omega
        have hB : zdf sl tl ⟨sz,nw,wn,rels⟩ = ((decide (1 <= sz) && decide (sz <= 3) && decide (rl <= 3)) && (numB nw rl && numB wn rl) && rels.all (zcn sl tl)):=by rw [r1];rfl
        rw [hB] at hsn hno
        clear hB r1
        have RS:=(show Hid _ from r5)
        clear r5
        by_cases g1 : 1 <= sz
        ·by_cases g2 : sz <= 3
         ·by_cases g3 : rl <= 3
          ·rw [decide_eq_true g1,decide_eq_true g2,decide_eq_true g3] at hsn hno
           by_cases e1 : 0 <= nw
           ·by_cases e2 : nw < rl
            ·by_cases e3 : 0 <= wn
             ·by_cases e4 : wn < rl
              ·rw [show numB nw rl = true by unfold numB;simp;omega,show numB wn rl = true by unfold numB;simp;omega] at hsn hno
               simp only [Bool.true_and,Bool.and_true] at hsn hno
               have HN : Hid (∀ (j : Nat) (ps : List PinD),rels[j]? = some ps -> zcn sl tl ps = false -> R = false):=fun j ps h1 h2 => hno (zca h1 h2)
               have HS:=(show Hid _ from hsn)
               clear hno hsn
               have sbx:=box4 w5 (.int .i64 sz) (.int .i64 nw) (.int .i64 wn) (.slice ra rl rc) 67
               go_wp2_with fail
               go_loopw [8] (fun vj wr => ∃ j : Nat,j <= rl /\ vj = .int .i64 j /\ Hid ((rels.take j).all (zcn sl tl) = true) /\ Below (w5.alloc (.cells #[.int .i64 sz,.int .i64 nw,.int .i64 wn,.slice ra rl rc] 67)).heap.size (w5.alloc (.cells #[.int .i64 sz,.int .i64 nw,.int .i64 wn,.slice ra rl rc] 67)) wr) (fun j _ => rl - (intOf j).toNat)
               case atStart => exact ⟨0,Nat.zero_le _,rfl,(by show _ = _;rfl),Below.refl _ _⟩
               case round =>
                obtain ⟨j,hj,rfl,hall,hbq⟩:=hrel
                have hbq5:=thn3 (bel1 w5 _) hbq
                have hbqw:=thn3 hbw hbq5
                have hbqB:=thn3 hb hbq5
                have e9:=zak hbq5 ⟨f0,f1,f2⟩
                have e8:=zaa hbq sbx.2.2.2
                have hfl2 : w.heap.size < wr.heap.size:=zaf e9.1
                have hfl3 : w5.heap.size < wr.heap.size:=zaf e8
                have hy0 := znn j
                by_cases hjl : j < rl
                ·obtain ⟨ps,hpj⟩ : ∃ ps,rels[j]? = some ps:=⟨rels[j],List.getElem?_eq_getElem (by omega)⟩
                 obtain ⟨b',o',pa,pl,pc,rfl,k0,hps⟩:=RS.out j ps hpj
                 have k0:=zaa hbqw k0
                 have hbl3:=zaf k0
                 have hcall:=fun (W : World) (h : Below wr.heap.size wr W) => zyd sl tl ps sa ta (some ⟨b,o,none⟩) sc tc vl vc hslN htlN W pa pl pc (hps.keep (thn3 hbqw h))
                 have hsn:=zcb (zcn sl tl) hpj
                 rw [hall.out,Bool.true_and] at hsn
                 have hno:=HN.out j ps hpj
                 have hy1 : (j : Int) < (rl : Int):=by omega
                 generalize zcn sl tl ps = x at hcall hsn hno
                 clear hpj hps hall
                 cases x with
                 | false =>
                  have hR1:=hno rfl
                  clear hno hsn
                  subst hR1
                  go_wp2_with fail
                  (first | go_region_held3 (fun w' => (w'.cell? ⟨w.heap.size,0,none⟩ = some (.slice sa sl sc) /\ w'.cell? ⟨w.heap.size,1,none⟩ = some (.slice ta tl tc) /\ w'.cell? ⟨w.heap.size,2,none⟩ = some (.slice (some ⟨b,o,none⟩) vl vc)) /\ w'.cell? ⟨w5.heap.size,3,none⟩ = some (.slice (some ⟨b',o',none⟩) rl rc) /\ w'.cell? ⟨b',o' + j,none⟩ = some (.slice pa pl pc)) (go_keep) (first | (go_at_call 55;refine (hcall _ (by first | exact (Below.refl _ _).drew | exact Below.refl _ _)).mono ?_;rintro e w3 ⟨rfl,hb3⟩;have e3:=zak hb3 e9;have e4:=zaa hb3 e8;have e5:=zaa hb3 k0)) | (go_at_call 55;refine (hcall _ (Below.refl _ _)).mono ?_;rintro e w3 ⟨rfl,hb3⟩))
                  go_wp2_with fail
                  go_ret
                  first | exact ⟨rfl,thn3 hbqw.drew hb3⟩ | exact ⟨rfl,thn3 hbqw hb3⟩
                 | true =>
                  have hy : Hid ((rels.take (j + 1)).all (zcn sl tl) = true):=hsn
                  clear hno hsn
                  go_wp2_with fail
                  (first | go_region_held3 (fun w' => (w'.cell? ⟨w.heap.size,0,none⟩ = some (.slice sa sl sc) /\ w'.cell? ⟨w.heap.size,1,none⟩ = some (.slice ta tl tc) /\ w'.cell? ⟨w.heap.size,2,none⟩ = some (.slice (some ⟨b,o,none⟩) vl vc)) /\ w'.cell? ⟨w5.heap.size,3,none⟩ = some (.slice (some ⟨b',o',none⟩) rl rc) /\ w'.cell? ⟨b',o' + j,none⟩ = some (.slice pa pl pc)) (go_keep) (first | (go_at_call 55;refine (hcall _ (by first | exact (Below.refl _ _).drew | exact Below.refl _ _)).mono ?_;rintro e w3 ⟨rfl,hb3⟩;have e3:=zak hb3 e9;have e4:=zaa hb3 e8;have e5:=zaa hb3 k0)) | (go_at_call 55;refine (hcall _ (Below.refl _ _)).mono ?_;rintro e w3 ⟨rfl,hb3⟩))
                  go_wp2_with fail
                  go_roundw
                  case rel => first | exact ⟨j + 1,by omega,by go_num,hy,thn3 hbq.drew hb3⟩ | exact ⟨j + 1,by omega,by go_num,hy,thn3 hbq hb3⟩
                  case measure => simp [intOf];omega
                ·have hA : rels.all (zcn sl tl) = true:=by have:=hall.out;rw [List.take_of_length_le (by omega)] at this;exact this
                 have hy : Hid ((vs.take (i + 1)).all (zdf sl tl) = true):=by show _ = _;rw [HS.out,hA]
                 clear hall hA HS
                 go_wp2_with fail
                 go_roundw
                 case rel => exact ⟨i + 1,by omega,by go_num,hy,hbqB⟩
                 case measure => simp [intOf];omega
              ·have hR1:=hno (by unfold numB;simp;omega)
               clear hno hsn
               subst hR1
               go_wp2_with fail
               go_ret
               exact ⟨rfl,thn3 hbw (bel1 _ _)⟩
             ·have hR1:=hno (by unfold numB;simp;omega)
              clear hno hsn
              subst hR1
              go_wp2_with fail
              go_ret
              exact ⟨rfl,thn3 hbw (bel1 _ _)⟩
            ·have hR1:=hno (by unfold numB;simp;omega)
             clear hno hsn
             subst hR1
             go_wp2_with fail
             go_ret
             exact ⟨rfl,thn3 hbw (bel1 _ _)⟩
           ·have hR1:=hno (by unfold numB;simp;omega)
            clear hno hsn
            subst hR1
            go_wp2_with fail
            go_ret
            exact ⟨rfl,thn3 hbw (bel1 _ _)⟩
          ·have hR1:=hno (by unfold numB;simp;omega)
           clear hno hsn
           subst hR1
           go_wp2_with fail
           go_ret
           exact ⟨rfl,thn3 hbw (bel1 _ _)⟩
         ·have hR1:=hno (by unfold numB;simp;omega)
          clear hno hsn
          subst hR1
          go_wp2_with fail
          go_ret
          exact ⟨rfl,thn3 hbw (bel1 _ _)⟩
        ·have hR1:=hno (by unfold numB;simp;omega)
         clear hno hsn
         subst hR1
         go_wp2_with fail
         go_ret
         exact ⟨rfl,thn3 hbw (bel1 _ _)⟩
       ·have hR1 : R = true:=by rw [HR3.out,<- hn.out,List.take_of_length_le (by omega)]
        clear HR3 hn
        subst hR1
        go_wp2_with fail
        go_ret
        exact ⟨rfl,hbw⟩
 ·have hR1 : R = false:=by
   rw [hR]
   by_cases c1 : sl <= 8
   ·by_cases c2 : tl <= 4
    ·by_cases c3 : 1 <= vl
     ·rw [decide_eq_false (show ¬ vs.length <= 3 by omega)];simp
     ·rw [decide_eq_false (show ¬ 1 <= vs.length by omega)];simp
    ·rw [decide_eq_false (show ¬ ts.length <= 4 by omega)];simp
   ·rw [decide_eq_false (show ¬ ss.length <= 8 by omega)];simp
  have hs9 : sl <= 2000000:=by omega
  have ht9 : tl <= 2000000:=by omega
  have hv9 : vl <= 2000000:=by omega
  clear hR s1 s2 s3 s4 t1 t2 t3 v1 v2 v3
  subst hR1
  by_cases c1 : sl <= 8
  ·by_cases c2 : tl <= 4
   ·by_cases c3 : 1 <= vl
    ·have c4 : 3 < vl:=by omega
     clear g1
     go_enter Tryz.func28,Tryz.ntmps28
     go_wp2_with fail
     go_ret
     exact ⟨rfl,bel1 _ _⟩
    ·have c4 : vl = 0:=by omega
     clear g1 c3
     go_enter Tryz.func28,Tryz.ntmps28
     go_wp2_with fail
     go_ret
     exact ⟨rfl,bel1 _ _⟩
   ·clear g1
    go_enter Tryz.func28,Tryz.ntmps28
    go_wp2_with fail
    go_ret
    exact ⟨rfl,bel1 _ _⟩
  ·clear g1
   go_enter Tryz.func28,Tryz.ntmps28
   go_wp2_with fail
   go_ret
   exact ⟨rfl,bel1 _ _⟩
end
section
open Go.RowKit
def fitM (ss : List ByteArray) : List (List Bool):=ss.map fun s => ss.map fun t => fitB s t
theorem zuo {ss : List ByteArray} {i : Nat} {s : ByteArray} (h : ss[i]? = some s) : (fitM ss)[i]? = some (ss.map fun t => fitB s t):=by rw [fitM,List.getElem?_map,h];rfl
theorem zlp {ss : List ByteArray} {i j : Nat} {s t : ByteArray} (hi : ss[i]? = some s) (hj : ss[j]? = some t) : tabI ss i j = fitB s t:=by unfold tabI;rw [hi,hj]
def rdB (ss : List ByteArray) (p q : PinD) : Bool:=(decide (p.w < 0) || decide (q.r < 0)) || tabI ss p.w.toNat q.r.toNat
theorem zqd (ss : List ByteArray) (p q : PinD) (hp : p.w < ss.length) (hq : q.r < ss.length) (hs : ss.length <= 8) (g : Nat) (fa : Option Addr) (fc : Nat) (w : World) (hc : w.cell? ⟨g,3,none⟩ = some (.slice fa ss.length fc)) (hM : MatAt w fa (fitM ss)) :
  Calls Tryz.prog 80 #[.pointer (some ⟨g,0,none⟩),.agg #[.int .i64 p.t,.int .i64 p.w,.int .i64 p.r],.agg #[.int .i64 q.t,.int .i64 q.w,.int .i64 q.r]] w fun e W => e = .returned (.bool (rdB ss p q)) /\ Below w.heap.size w W:=by
 obtain ⟨pt,pw,pr⟩:=p
 obtain ⟨qt,qw,qr⟩:=q
 simp only at hp hq
 unfold rdB
 simp only
 have hB:=bx w (.cells #[.int .i64 pt,.int .i64 pw,.int .i64 pr] 94) (.cells #[.int .i64 qt,.int .i64 qw,.int .i64 qr] 94)
 by_cases h1 : pw < 0
 ·rw [decide_eq_true h1]
  simp only [Bool.true_or]
  go_enter Tryz.func80,Tryz.ntmps80
  go_wp2_with fail
  go_ret
  exact ⟨rfl,hB⟩
 by_cases h2 : qr < 0
 ·rw [decide_eq_true h2]
  simp only [Bool.or_true,Bool.true_or]
  have h1' : 0 <= pw:=by omega
  clear h1
  go_enter Tryz.func80,Tryz.ntmps80
  go_wp2_with fail
  go_ret
  exact ⟨rfl,hB⟩
 obtain ⟨i,rfl⟩ : ∃ i : Nat,pw = i:=⟨pw.toNat,by omega⟩
 obtain ⟨j,rfl⟩ : ∃ j : Nat,qr = j:=⟨qr.toNat,by omega⟩
 obtain ⟨s,hsi⟩ : ∃ s,ss[i]? = some s:=⟨ss[i]'(by omega),List.getElem?_eq_getElem (by omega)⟩
 obtain ⟨t,htj⟩ : ∃ t,ss[j]? = some t:=⟨ss[j]'(by omega),List.getElem?_eq_getElem (by omega)⟩
 obtain ⟨b,o,g',c,rfl,m1,m2⟩:=hM i _ (zuo hsi)
 have m2:=m2 j (fitB s t) (by rw [List.getElem?_map,htj];rfl)
 rw [List.length_map] at m1
 rw [decide_eq_false h1,decide_eq_false h2,Int.toNat_natCast,Int.toNat_natCast,zlp hsi htj]
 simp only [Bool.false_or]
 have k0:=zaa hB hc
 have k1:=zaa hB m1
 have k2:=zaa hB m2
 have hi0 := znn i
 have hj0 := znn j
 have hgl:=zaf hc
 have hbl:=zaf m1
 have hgl':=zaf m2
 generalize fitB s t = R at k2
 clear hsi htj hM h1 h2 hc m1 m2
 go_enter Tryz.func80,Tryz.ntmps80
 have PB:=new3 (.cells #[.int .i64 qt,.int .i64 qw,.int .i64 j] 94) (box3 w (.int .i64 pt) (.int .i64 i) (.int .i64 pr) 94)
 have QB:=box3 (w.alloc (.cells #[.int .i64 pt,.int .i64 i,.int .i64 pr] 94)) (.int .i64 qt) (.int .i64 qw) (.int .i64 j) 94
 rw [za2] at QB
 have PB1:=PB.2.1
 have QB2:=QB.2.2
 clear PB QB
 go_wp2_with fail
 go_region_held3 (fun w' => (w'.cell? ⟨g,3,none⟩ = some (.slice (some ⟨b,o,none⟩) ss.length fc) /\ w'.cell? ⟨b,o + i,none⟩ = some (.slice (some ⟨g',0,none⟩) ss.length c)) /\ w'.cell? ⟨g',j,none⟩ = some (.bool R) /\ w'.cell? ⟨w.heap.size,1,none⟩ = some (.int .i64 i) /\ w'.cell? ⟨w.heap.size + 1,2,none⟩ = some (.int .i64 j)) (go_keep) (first | fail)
 go_wp2_with fail
 go_ret
 exact ⟨rfl,hB.drew⟩
end
end Go.Proofs.YtkkekopomiehlaaGreat
