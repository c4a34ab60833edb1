import Derived.Test.YtkkekopomiehlabCSq1
set_option linter.unusedVariables false
set_option linter.unusedSimpArgs false
set_option maxHeartbeats 40000000
set_option maxRecDepth 4000
namespace Go.Proofs.Ytkkekopomiehlab
section
open Go.RowKit
theorem zgg {w w1 : World} (hb : Below ((w.alloc (.cells #[.int .i64 0,.string ⟨#[]⟩,.bool false,.slice none 0 0,.slice none 0 0] 99)).alloc (.cells #[.int .i64 0,.string ⟨#[]⟩,.bool false,.slice none 0 0,.slice none 0 0] 99)).heap.size ((w.alloc (.cells #[.int .i64 0,.string ⟨#[]⟩,.bool false,.slice none 0 0,.slice none 0 0] 99)).alloc (.cells #[.int .i64 0,.string ⟨#[]⟩,.bool false,.slice none 0 0,.slice none 0 0] 99)) w1) :
  w1.cell? ⟨w.heap.size,0,none⟩ = some (.int .i64 0) /\ w1.cell? ⟨w.heap.size,1,none⟩ = some (.string ⟨#[]⟩) /\ w1.cell? ⟨w.heap.size,2,none⟩ = some (.bool false) /\ w1.cell? ⟨w.heap.size,3,none⟩ = some (.slice none 0 0) /\ w1.cell? ⟨w.heap.size,4,none⟩ = some (.slice none 0 0) /\ w1.cell? ⟨w.heap.size + 1,0,none⟩ = some (.int .i64 0) /\ w1.cell? ⟨w.heap.size + 1,1,none⟩ = some (.string ⟨#[]⟩) /\ w1.cell? ⟨w.heap.size + 1,2,none⟩ = some (.bool false) /\ w1.cell? ⟨w.heap.size + 1,3,none⟩ = some (.slice none 0 0) /\ w1.cell? ⟨w.heap.size + 1,4,none⟩ = some (.slice none 0 0):=by
 have h : (w.alloc (.cells #[.int .i64 0,.string ⟨#[]⟩,.bool false,.slice none 0 0,.slice none 0 0] 99)).heap.size = w.heap.size + 1:=by simp
 refine ⟨zaa hb (zam _ (zal rfl rfl)),zaa hb (zam _ (zal rfl rfl)),zaa hb (zam _ (zal rfl rfl)),zaa hb (zam _ (zal rfl rfl)),zaa hb (zam _ (zal rfl rfl)),?_⟩
 rw [<- h]
 exact ⟨zaa hb (zal rfl rfl),zaa hb (zal rfl rfl),zaa hb (zal rfl rfl),zaa hb (zal rfl rfl),zaa hb (zal rfl rfl)⟩
theorem zqb {w w1 w2 : World} {o o2 : Obj} (hb : Below ((w.alloc (.cells #[.int .i64 0,.string ⟨#[]⟩,.bool false,.slice none 0 0,.slice none 0 0] 99)).alloc (.cells #[.int .i64 0,.string ⟨#[]⟩,.bool false,.slice none 0 0,.slice none 0 0] 99)).heap.size ((w.alloc (.cells #[.int .i64 0,.string ⟨#[]⟩,.bool false,.slice none 0 0,.slice none 0 0] 99)).alloc (.cells #[.int .i64 0,.string ⟨#[]⟩,.bool false,.slice none 0 0,.slice none 0 0] 99)) w1) (hb2 : Below (w1.alloc o).heap.size (w1.alloc o) w2) :
  (w2.alloc o2).cell? ⟨w.heap.size,0,none⟩ = some (.int .i64 0) /\ (w2.alloc o2).cell? ⟨w.heap.size,1,none⟩ = some (.string ⟨#[]⟩) /\ (w2.alloc o2).cell? ⟨w.heap.size,2,none⟩ = some (.bool false) /\ (w2.alloc o2).cell? ⟨w.heap.size,3,none⟩ = some (.slice none 0 0) /\ (w2.alloc o2).cell? ⟨w.heap.size,4,none⟩ = some (.slice none 0 0) /\ (w2.alloc o2).cell? ⟨w.heap.size + 1,0,none⟩ = some (.int .i64 0) /\ (w2.alloc o2).cell? ⟨w.heap.size + 1,1,none⟩ = some (.string ⟨#[]⟩) /\ (w2.alloc o2).cell? ⟨w.heap.size + 1,2,none⟩ = some (.bool false) /\ (w2.alloc o2).cell? ⟨w.heap.size + 1,3,none⟩ = some (.slice none 0 0) /\ (w2.alloc o2).cell? ⟨w.heap.size + 1,4,none⟩ = some (.slice none 0 0):=by
 obtain ⟨h0,h1,h2,h3,h4,k0,k1,k2,k3,k4⟩:=zgg hb
 have q : ∀ {b i : Nat} {v : Value},w1.cell? ⟨b,i,none⟩ = some v -> (w2.alloc o2).cell? ⟨b,i,none⟩ = some v:=fun h => zam _ (zaa hb2 (zam _ h))
 exact ⟨q h0,q h1,q h2,q h3,q h4,q k0,q k1,q k2,q k3,q k4⟩
theorem zqc {w w1 w2 : World} {o : Obj} (hb : Below ((w.alloc (.cells #[.int .i64 0,.string ⟨#[]⟩,.bool false,.slice none 0 0,.slice none 0 0] 99)).alloc (.cells #[.int .i64 0,.string ⟨#[]⟩,.bool false,.slice none 0 0,.slice none 0 0] 99)).heap.size ((w.alloc (.cells #[.int .i64 0,.string ⟨#[]⟩,.bool false,.slice none 0 0,.slice none 0 0] 99)).alloc (.cells #[.int .i64 0,.string ⟨#[]⟩,.bool false,.slice none 0 0,.slice none 0 0] 99)) w1) (hb2 : Below (w1.alloc o).heap.size (w1.alloc o) w2) :
  w2.cell? ⟨w.heap.size,0,none⟩ = some (.int .i64 0) /\ w2.cell? ⟨w.heap.size,1,none⟩ = some (.string ⟨#[]⟩) /\ w2.cell? ⟨w.heap.size,2,none⟩ = some (.bool false) /\ w2.cell? ⟨w.heap.size,3,none⟩ = some (.slice none 0 0) /\ w2.cell? ⟨w.heap.size,4,none⟩ = some (.slice none 0 0) /\ w2.cell? ⟨w.heap.size + 1,0,none⟩ = some (.int .i64 0) /\ w2.cell? ⟨w.heap.size + 1,1,none⟩ = some (.string ⟨#[]⟩) /\ w2.cell? ⟨w.heap.size + 1,2,none⟩ = some (.bool false) /\ w2.cell? ⟨w.heap.size + 1,3,none⟩ = some (.slice none 0 0) /\ w2.cell? ⟨w.heap.size + 1,4,none⟩ = some (.slice none 0 0):=by
 obtain ⟨h0,h1,h2,h3,h4,k0,k1,k2,k3,k4⟩:=zgg hb
 have q : ∀ {b i : Nat} {v : Value},w1.cell? ⟨b,i,none⟩ = some v -> w2.cell? ⟨b,i,none⟩ = some v:=fun h => zaa hb2 (zam _ h)
 exact ⟨q h0,q h1,q h2,q h3,q h4,q k0,q k1,q k2,q k3,q k4⟩
theorem thnT {w W w1 : World} (h : Below w.heap.size w W) (k : Below W.heap.size W w1) : Below w.heap.size w w1:=h.trans (k.mono h.size)
theorem BBt (w : World) (o o2 : Obj) : Below w.heap.size w ((w.alloc o).alloc o2):=((Below.refl _ _).alloc (Nat.le_refl _) _).alloc (by simp) _
theorem zpn {s t : ByteArray} (hs : s.size <= maxLen) (ht : t.size <= maxLen) (h : 60 < s.size \/ 60 < t.size) (w : World) :
  Calls Try.prog 47 #[.string s,.string t] w fun e w' => e = .returned (.tuple #[.agg #[.int .i64 0,.string ByteArray.empty,.bool false,.slice none 0 0,.slice none 0 0],.agg #[.int .i64 0,.string ByteArray.empty,.bool false,.slice none 0 0,.slice none 0 0],.int .i64 1]) /\ Below w.heap.size w w':=by
 unfold maxLen at hs ht
 by_cases h1 : 60 < s.size
 ·go_enter Try.func47,Try.ntmps47
  go_wp2_with fail
  exact bodyPost_ret (v:=.tuple #[.agg #[.int .i64 0,.string ByteArray.empty,.bool false,.slice none 0 0,.slice none 0 0],.agg #[.int .i64 0,.string ByteArray.empty,.bool false,.slice none 0 0,.slice none 0 0],.int .i64 1]) (by simp [results,Try.results47,go_sem];rfl) rfl ⟨rfl,((Below.refl _ _).alloc (Nat.le_refl _) _).alloc (by simp) _⟩
 ·have h2 : 60 < t.size:=by omega
  go_enter Try.func47,Try.ntmps47
  go_wp2_with fail
  exact bodyPost_ret (v:=.tuple #[.agg #[.int .i64 0,.string ByteArray.empty,.bool false,.slice none 0 0,.slice none 0 0],.agg #[.int .i64 0,.string ByteArray.empty,.bool false,.slice none 0 0,.slice none 0 0],.int .i64 1]) (by simp [results,Try.results47,go_sem];rfl) rfl ⟨rfl,((Below.refl _ _).alloc (Nat.le_refl _) _).alloc (by simp) _⟩
theorem zpl {s t : ByteArray} (hs : s.size <= 60) (ht : t.size <= 60) (hx : pAll false s = none) (w : World) :
  Calls Try.prog 47 #[.string s,.string t] w fun e w' => e = .returned (.tuple #[.agg #[.int .i64 0,.string ByteArray.empty,.bool false,.slice none 0 0,.slice none 0 0],.agg #[.int .i64 0,.string ByteArray.empty,.bool false,.slice none 0 0,.slice none 0 0],.int .i64 2]) /\ Below w.heap.size w w':=by
 have hcall:=fun w => zd8 (zcr hs w) hx
 clear hx
 go_enter Try.func47,Try.ntmps47
 go_wp2_with (go_at_call 45;refine (hcall _).mono ?_;rintro e w1 ⟨rfl,hb1⟩;obtain ⟨hc1,hf1⟩:=zaj hb1;have hz1 : w.heap.size + 1 < w1.heap.size:=(by have:=hb1.size;simp at this;omega);have hz2 : w.heap.size < w1.heap.size:=(by omega))
 have kz:=zgg hb1
 exact bodyPost_ret (v:=.tuple #[.agg #[.int .i64 0,.string ByteArray.empty,.bool false,.slice none 0 0,.slice none 0 0],.agg #[.int .i64 0,.string ByteArray.empty,.bool false,.slice none 0 0,.slice none 0 0],.int .i64 2]) (by simp [results,Try.results47,go_sem,kz,hz1,hz2];rfl) rfl ⟨rfl,Below.alloc' (Below.set5 (Below.set5 ((BBt w _ _).trans (hb1.mono (by simp;omega))) (Nat.le_refl _)) (by omega)) _⟩
theorem zpo {s t : ByteArray} (hs : s.size <= 60) (ht : t.size <= 60) {x r : Ty} (hx : pAll false s = some x) (hr : pAll false t = some r) (w : World) :
  Calls Try.prog 47 #[.string s,.string t] w fun e w' => ∃ ai li ci af lf cf bi mi di bf mf df,e = .returned (.tuple #[.agg #[.int .i64 x.kind,.string x.letters,.bool x.op,.slice ai li ci,.slice af lf cf],.agg #[.int .i64 r.kind,.string r.letters,.bool r.op,.slice bi mi di,.slice bf mf df],.int .i64 0]) /\
   RepB (fun b => w.heap.size <= b) s.size w' ai li ci af lf cf x /\ RepB (fun b => w.heap.size <= b) t.size w' bi mi di bf mf df r /\ Below w.heap.size w w':=by
 have hcall:=fun w => zc9 (zcr hs w) hx
 have hcall2:=fun w => zc9 (zcr ht w) hr
 clear hx hr
 go_enter Try.func47,Try.ntmps47
 go_wp2_with (first | (go_at_call 45;have hq:=hb1;refine (hcall2 _).mono ?_;rintro e w2 ⟨bi,mi,di,bf,mf,df,rfl,hr2,hb2⟩;obtain ⟨hc2,hf2⟩:=zaj hb2;have hy1 : w1.heap.size < w2.heap.size:=(by have:=hb2.size;simp at this;omega);have hy2 : w.heap.size < w2.heap.size:=(by omega);have hy3 : w.heap.size + 1 < w2.heap.size:=(by omega)) | (go_at_call 45;refine (hcall _).mono ?_;rintro e w1 ⟨ai,li,ci,af,lf,cf,rfl,hr1,hb1⟩;obtain ⟨hc1,hf1⟩:=zaj hb1;have hz1 : w.heap.size + 1 < w1.heap.size:=(by have:=hb1.size;simp at this;omega);have hz2 : w.heap.size < w1.heap.size:=(by omega)))
 have k1 : (w2.alloc (.cells #[.int .i64 r.kind,.string r.letters,.bool r.op,.slice bi mi di,.slice bf mf df] 99)).cell? ⟨w1.heap.size,0,none⟩ = some (.int .i64 x.kind) /\ (w2.alloc (.cells #[.int .i64 r.kind,.string r.letters,.bool r.op,.slice bi mi di,.slice bf mf df] 99)).cell? ⟨w1.heap.size,1,none⟩ = some (.string x.letters) /\ (w2.alloc (.cells #[.int .i64 r.kind,.string r.letters,.bool r.op,.slice bi mi di,.slice bf mf df] 99)).cell? ⟨w1.heap.size,2,none⟩ = some (.bool x.op) /\ (w2.alloc (.cells #[.int .i64 r.kind,.string r.letters,.bool r.op,.slice bi mi di,.slice bf mf df] 99)).cell? ⟨w1.heap.size,3,none⟩ = some (.slice ai li ci) /\ (w2.alloc (.cells #[.int .i64 r.kind,.string r.letters,.bool r.op,.slice bi mi di,.slice bf mf df] 99)).cell? ⟨w1.heap.size,4,none⟩ = some (.slice af lf cf):=by
  refine ⟨zam _ (zaa hb2 (zal rfl rfl)),zam _ (zaa hb2 (zal rfl rfl)),zam _ (zaa hb2 (zal rfl rfl)),zam _ (zaa hb2 (zal rfl rfl)),zam _ (zaa hb2 (zal rfl rfl))⟩
 have k2 : (w2.alloc (.cells #[.int .i64 r.kind,.string r.letters,.bool r.op,.slice bi mi di,.slice bf mf df] 99)).cell? ⟨w2.heap.size,0,none⟩ = some (.int .i64 r.kind) /\ (w2.alloc (.cells #[.int .i64 r.kind,.string r.letters,.bool r.op,.slice bi mi di,.slice bf mf df] 99)).cell? ⟨w2.heap.size,1,none⟩ = some (.string r.letters) /\ (w2.alloc (.cells #[.int .i64 r.kind,.string r.letters,.bool r.op,.slice bi mi di,.slice bf mf df] 99)).cell? ⟨w2.heap.size,2,none⟩ = some (.bool r.op) /\ (w2.alloc (.cells #[.int .i64 r.kind,.string r.letters,.bool r.op,.slice bi mi di,.slice bf mf df] 99)).cell? ⟨w2.heap.size,3,none⟩ = some (.slice bi mi di) /\ (w2.alloc (.cells #[.int .i64 r.kind,.string r.letters,.bool r.op,.slice bi mi di,.slice bf mf df] 99)).cell? ⟨w2.heap.size,4,none⟩ = some (.slice bf mf df):=⟨zal rfl rfl,zal rfl rfl,zal rfl rfl,zal rfl rfl,zal rfl rfl⟩
 have kz:=zqb hb1 hb2 (o:=.cells #[.int .i64 x.kind,.string x.letters,.bool x.op,.slice ai li ci,.slice af lf cf] 99) (o2:=.cells #[.int .i64 r.kind,.string r.letters,.bool r.op,.slice bi mi di,.slice bf mf df] 99)
 have hbW : Below w.heap.size w (w2.alloc (.cells #[.int .i64 r.kind,.string r.letters,.bool r.op,.slice bi mi di,.slice bf mf df] 99)):=Below.alloc' (thnT (Below.alloc' (thnT (BBt w _ _) hb1) _) hb2) _
 have hR1 : RepB (fun b => w.heap.size + 2 <= b) s.size (w2.alloc (.cells #[.int .i64 r.kind,.string r.letters,.bool r.op,.slice bi mi di,.slice bf mf df] 99)) ai li ci af lf cf x:=(hr1.keep (fun b o v hS h => zam _ (zaa hb2 (zam _ h)))).imp (fun b _ h => by simp at h;omega)
 have hR2 : RepB (fun b => w.heap.size + 2 <= b) t.size (w2.alloc (.cells #[.int .i64 r.kind,.string r.letters,.bool r.op,.slice bi mi di,.slice bf mf df] 99)) bi mi di bf mf df r:=(hr2.keep (fun b o v hS h => zam _ h)).imp (fun b _ h => by simp at h;omega)
 have fz : ∀ o,(w2.alloc (.cells #[.int .i64 r.kind,.string r.letters,.bool r.op,.slice bi mi di,.slice bf mf df] 99)).frozen? ⟨w.heap.size,o,none⟩ = false:=fun o => by
  rw [frozen?_alloc_cells,hf2 _ _ (by simp;omega),frozen?_alloc_cells,hf1 _ _ (by simp;omega),frozen?_alloc_cells,frozen?_alloc_cells];simp [World.frozen?]
 have fz2 : ∀ o,(w2.alloc (.cells #[.int .i64 r.kind,.string r.letters,.bool r.op,.slice bi mi di,.slice bf mf df] 99)).frozen? ⟨w.heap.size + 1,o,none⟩ = false:=fun o => by
  rw [frozen?_alloc_cells,hf2 _ _ (by simp;omega),frozen?_alloc_cells,hf1 _ _ (by simp),frozen?_alloc_cells,frozen?_alloc_cells];simp [World.frozen?]
 have n1 : ¬ w1.heap.size = w.heap.size:=by omega
 have n2 : ¬ w1.heap.size = w.heap.size + 1:=by omega
 have n3 : ¬ w2.heap.size = w.heap.size:=by omega
 have n4 : ¬ w2.heap.size = w.heap.size + 1:=by omega
 have n5 : ¬ w.heap.size = w1.heap.size:=by omega
 have n6 : ¬ w.heap.size + 1 = w1.heap.size:=by omega
 have n7 : ¬ w.heap.size = w2.heap.size:=by omega
 have n8 : ¬ w.heap.size + 1 = w2.heap.size:=by omega
 generalize (w2.alloc (.cells #[.int .i64 r.kind,.string r.letters,.bool r.op,.slice bi mi di,.slice bf mf df] 99)) = W3 at k1 k2 kz fz fz2 hbW hR1 hR2 ⊢
 go_region_held3 (fun w' => (w'.cell? ⟨w1.heap.size,0,none⟩ = some (.int .i64 x.kind) /\ w'.cell? ⟨w1.heap.size,1,none⟩ = some (.string x.letters) /\ w'.cell? ⟨w1.heap.size,2,none⟩ = some (.bool x.op) /\ w'.cell? ⟨w1.heap.size,3,none⟩ = some (.slice ai li ci) /\ w'.cell? ⟨w1.heap.size,4,none⟩ = some (.slice af lf cf)) /\ w'.cell? ⟨w2.heap.size,0,none⟩ = some (.int .i64 r.kind) /\ w'.cell? ⟨w2.heap.size,1,none⟩ = some (.string r.letters) /\ w'.cell? ⟨w2.heap.size,2,none⟩ = some (.bool r.op) /\ w'.cell? ⟨w2.heap.size,3,none⟩ = some (.slice bi mi di) /\ w'.cell? ⟨w2.heap.size,4,none⟩ = some (.slice bf mf df)) (go_keep) (fail)
 go_wp2_with fail
 refine bodyPost_ret (v:=.tuple #[.agg #[.int .i64 x.kind,.string x.letters,.bool x.op,.slice ai li ci,.slice af lf cf],.agg #[.int .i64 r.kind,.string r.letters,.bool r.op,.slice bi mi di,.slice bf mf df],.int .i64 0]) (by simp [results,Try.results47,go_sem,kz]) rfl ?_
 exact ⟨ai,li,ci,af,lf,cf,bi,mi,di,bf,mf,df,rfl,(hR1.keep (fun b o v hS h => zfd (zbg (zbg h (by omega)) (by omega)))).imp (fun b _ h => by show w.heap.size <= b;omega),
  (hR2.keep (fun b o v hS h => zfd (zbg (zbg h (by omega)) (by omega)))).imp (fun b _ h => by show w.heap.size <= b;omega),(Below.set5 (Below.set5 hbW (Nat.le_refl _)) (by omega)).drew⟩
theorem zpm {s t : ByteArray} (hs : s.size <= 60) (ht : t.size <= 60) {x : Ty} (hx : pAll false s = some x) (hr : pAll false t = none) (w : World) :
  Calls Try.prog 47 #[.string s,.string t] w fun e w' => e = .returned (.tuple #[.agg #[.int .i64 0,.string ByteArray.empty,.bool false,.slice none 0 0,.slice none 0 0],.agg #[.int .i64 0,.string ByteArray.empty,.bool false,.slice none 0 0,.slice none 0 0],.int .i64 2]) /\ Below w.heap.size w w':=by
 have hcall:=fun w => zc9 (zcr hs w) hx
 have hcall2:=fun w => zd8 (zcr ht w) hr
 clear hx hr
 go_enter Try.func47,Try.ntmps47
 go_wp2_with (first | (go_at_call 45;have hq:=hb1;refine (hcall2 _).mono ?_;rintro e w2 ⟨rfl,hb2⟩;obtain ⟨hc2,hf2⟩:=zaj hb2;have hy1 : w1.heap.size < w2.heap.size:=(by have:=hb2.size;simp at this;omega);have hy2 : w.heap.size < w2.heap.size:=(by omega);have hy3 : w.heap.size + 1 < w2.heap.size:=(by omega)) | (go_at_call 45;refine (hcall _).mono ?_;rintro e w1 ⟨ai,li,ci,af,lf,cf,rfl,hr1,hb1⟩;obtain ⟨hc1,hf1⟩:=zaj hb1;have hz1 : w.heap.size + 1 < w1.heap.size:=(by have:=hb1.size;simp at this;omega);have hz2 : w.heap.size < w1.heap.size:=(by omega)))
 have kz:=zqc hb1 hb2
 exact bodyPost_ret (v:=.tuple #[.agg #[.int .i64 0,.string ByteArray.empty,.bool false,.slice none 0 0,.slice none 0 0],.agg #[.int .i64 0,.string ByteArray.empty,.bool false,.slice none 0 0,.slice none 0 0],.int .i64 2]) (by simp [results,Try.results47,go_sem,kz,hy1,hy2,hy3];rfl) rfl ⟨rfl,Below.alloc' (Below.set5 (Below.set5 (thnT (Below.alloc' (thnT (BBt w _ _) hb1) _) hb2) (Nat.le_refl _)) (by omega)) _⟩
end
section
open Go.RowKit
theorem ze2 (s t : ByteArray) (w : World) (n : Int) (hn : (n != 0) = true)
  (hcall : ∀ w,Calls Try.prog 47 #[.string s,.string t] w fun e w' => e = .returned (.tuple #[.agg #[.int .i64 0,.string ByteArray.empty,.bool false,.slice none 0 0,.slice none 0 0],.agg #[.int .i64 0,.string ByteArray.empty,.bool false,.slice none 0 0,.slice none 0 0],.int .i64 n]) /\ Below w.heap.size w w') :
  Calls Try.prog 23 #[.string s,.string t] w fun e w' => e = .returned (.tuple #[.string ByteArray.empty,.int .i64 n]) /\ Below w.heap.size w w':=by
 go_enter Try.func23,Try.ntmps23
 go_wp2_with (go_at_call 47;refine (hcall _).mono ?_;rintro e w1 ⟨rfl,hb1⟩)
 go_ret2
 exact ⟨rfl,Below.alloc' (Below.alloc' hb1 _) _⟩
theorem zgi (s t y : ByteArray) (b : Bool) (w : World) (x r : Ty) (n m : Nat)
  (hcall : ∀ w,Calls Try.prog 47 #[.string s,.string t] w fun e w' => ∃ ai li ci af lf cf bi mi di bf mf df,e = .returned (.tuple #[.agg #[.int .i64 x.kind,.string x.letters,.bool x.op,.slice ai li ci,.slice af lf cf],.agg #[.int .i64 r.kind,.string r.letters,.bool r.op,.slice bi mi di,.slice bf mf df],.int .i64 0]) /\
   RepB (fun b => w.heap.size <= b) n w' ai li ci af lf cf x /\ RepB (fun b => w.heap.size <= b) m w' bi mi di bf mf df r /\ Below w.heap.size w w')
  (hun : ∀ (W : World) (ai af : Option Addr) (li ci lf cf : Nat) (bi bf : Option Addr) (mi di mf df : Nat),Rep n W ai li ci af lf cf x -> Rep m W bi mi di bf mf df r -> Calls Try.prog 48 #[.agg #[.int .i64 x.kind,.string x.letters,.bool x.op,.slice ai li ci,.slice af lf cf],.agg #[.int .i64 r.kind,.string r.letters,.bool r.op,.slice bi mi di,.slice bf mf df]] W fun e w' => e = .returned (.tuple #[.string y,.bool b]) /\ Below W.heap.size W w') :
  Calls Try.prog 23 #[.string s,.string t] w fun e w' => e = .returned (if b = true then .tuple #[.string y,.int .i64 7] else .tuple #[.string ByteArray.empty,.int .i64 0]) /\ Below w.heap.size w w':=by
 cases b with
 | true =>
  rw [if_pos rfl]
  go_enter Try.func23,Try.ntmps23
  go_wp2_with (first | (go_at_call 47;refine (hcall _).mono ?_;rintro e w1 ⟨ai,li,ci,af,lf,cf,bi,mi,di,bf,mf,df,rfl,hr1,hr2,hb1⟩) | (go_at_call 48;refine (hun _ _ _ _ _ _ _ _ _ _ _ _ _ (hr1.rep.keep (bx w1 _ _)) (hr2.rep.keep (bx w1 _ _))).mono ?_;rintro e w2 ⟨rfl,hb2⟩))
  go_ret2
  exact ⟨rfl,thn2 (Below.alloc' (Below.alloc' hb1 _) _) hb2⟩
 | false =>
  rw [if_neg (by simp)]
  go_enter Try.func23,Try.ntmps23
  go_wp2_with (first | (go_at_call 47;refine (hcall _).mono ?_;rintro e w1 ⟨ai,li,ci,af,lf,cf,bi,mi,di,bf,mf,df,rfl,hr1,hr2,hb1⟩) | (go_at_call 48;refine (hun _ _ _ _ _ _ _ _ _ _ _ _ _ (hr1.rep.keep (bx w1 _ _)) (hr2.rep.keep (bx w1 _ _))).mono ?_;rintro e w2 ⟨rfl,hb2⟩))
  go_ret2
  exact ⟨rfl,thn2 (Below.alloc' (Below.alloc' hb1 _) _) hb2⟩
def zcm (s t : ByteArray) : ByteArray × Int :=
 if 60 < s.size \/ 60 < t.size then (ByteArray.empty,1)
 else match pAll false s,pAll false t with
  | some x,some r =>
   (match unV (s.size + t.size) s.size x r with
    | some u => (txtV s.size x u,7)
    | none => (ByteArray.empty,0))
  | _,_ => (ByteArray.empty,2)
theorem zj2 (s t : ByteArray) (hs : s.size <= maxLen) (ht : t.size <= maxLen) (hW : ∀ x,pAll false s = some x -> s.size <= 60 -> wt s.size x <= 20000) (w : World) :
  Calls Try.prog 23 #[.string s,.string t] w fun e w' => e = .returned (.tuple #[.string (zcm s t).1,.int .i64 (zcm s t).2]) /\ Below w.heap.size w w':=by
 unfold zcm
 by_cases h2 : 60 < s.size \/ 60 < t.size
 ·rw [if_pos h2]
  exact ze2 s t w 1 rfl (fun w => zpn hs ht h2 w)
 have hs60 : s.size <= 60:=by omega
 have ht60 : t.size <= 60:=by omega
 rw [if_neg h2]
 cases hx : pAll false s with
 | none => exact ze2 s t w 2 rfl (fun w => zpl hs60 ht60 hx w)
 | some x =>
  cases hr : pAll false t with
  | none => exact ze2 s t w 2 rfl (fun w => zpm hs60 ht60 hx hr w)
  | some r =>
   have hc:=fun w => zpo hs60 ht60 hx hr w
   have hK:=zga _ _ _ _ (zfu (show pAll true s = some x by rw [zh1];exact hx))
   have hun:=fun (W : World) (ai af : Option Addr) (li ci lf cf : Nat) (bi bf : Option Addr) (mi di mf df : Nat) (h1 : Rep s.size W ai li ci af lf cf x) (h2 : Rep t.size W bi mi di bf mf df r) => zgd (s.size + t.size) s.size t.size x r W ai af li ci lf cf bi bf mi di mf df (Nat.le_refl _) hK (hW x hx hs60) h1 h2
   simp only
   cases hu : unV (s.size + t.size) s.size x r with
   | none =>
    rw [hu] at hun
    exact zgi s t _ false w x r _ _ hc hun
   | some u =>
    rw [hu] at hun
    exact zgi s t _ true w x r _ _ hc hun
end
end Go.Proofs.Ytkkekopomiehlab
