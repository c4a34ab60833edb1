import Derived.Test.YtkkekopomiehlaaDoorDecP
import Derived.Test.YtkkekopomiehlaaDoorEq2
set_option linter.unusedVariables false
set_option linter.unusedSimpArgs false
namespace Go.Proofs.YtkkekopomiehlaaDoor
open Go.RowKit

/-- A value of some type: 'tag' says what it is: 0 a number, 1 a string, 2 a choice's place, 3 a list, 4 nothing, 5 something, 6 a record. -/
structure Val where
  tag : Nat
  n : Int
  s : ByteArray
  vs : List Val
def Val.num (x : Int) : Val := ⟨0, x, ByteArray.empty, []⟩
def Val.str (s : ByteArray) : Val := ⟨1, 0, s, []⟩
def Val.cho (i : Nat) : Val := ⟨2, i, ByteArray.empty, []⟩
def Val.lst (vs : List Val) : Val := ⟨3, 0, ByteArray.empty, vs⟩
def Val.non : Val := ⟨4, 0, ByteArray.empty, []⟩
def Val.som (v : Val) : Val := ⟨5, 0, ByteArray.empty, [v]⟩
def Val.rcd (vs : List Val) : Val := ⟨6, 0, ByteArray.empty, vs⟩
def Val.hd (v : Val) : Val := v.vs.headD Val.non

/-- The bytes x stand in d from the place j on. -/
def At (d : ByteArray) (j : Nat) (x : ByteArray) : Prop := j + x.size ≤ d.size ∧ ∀ i, i < x.size → bAt d (j + i) = bAt x i
theorem At.app {d x y : ByteArray} {j : Nat} : At d j (x ++ y) ↔ At d j x ∧ At d (j + x.size) y := by
  unfold At
  rw [ByteArray.size_append]
  constructor
  · rintro ⟨h1, h2⟩
    refine ⟨⟨by omega, fun i hi => ?_⟩, ⟨by omega, fun i hi => ?_⟩⟩
    · rw [h2 i (by omega), bAt_app_left _ _ _ hi]
    · rw [show j + x.size + i = j + (x.size + i) by omega, h2 _ (by omega), bAt_app_right]
  · rintro ⟨⟨h1, h2⟩, h3, h4⟩
    refine ⟨by omega, fun i hi => ?_⟩
    by_cases hx : i < x.size
    · rw [h2 i hx, bAt_app_left _ _ _ hx]
    · obtain ⟨m, rfl⟩ : ∃ m, i = x.size + m := ⟨i - x.size, by omega⟩
      rw [bAt_app_right, ← h4 m (by omega)]; congr 1; omega
theorem At.nil {d : ByteArray} {j : Nat} (h : j ≤ d.size) : At d j ByteArray.empty := ⟨by simpa using h, fun i hi => by simp at hi⟩
theorem At.one {d : ByteArray} {j b : Nat} (hb : b < 256) : At d j (oneB b) ↔ bAt d j = b := by
  unfold At
  rw [oneB_size]
  constructor
  · rintro ⟨_, h⟩; have := h 0 (by omega); rw [bAt_one b hb] at this; exact this
  · intro h
    refine ⟨by have := bAt_lt (s := d) (i := j) (by omega); omega, fun i hi => ?_⟩
    obtain rfl : i = 0 := by omega
    rw [bAt_one b hb]; exact h
theorem At.ext {d x : ByteArray} {j : Nat} (h : At d j x) : d.extract j (j + x.size) = x := by
  have hs := size_extract d j (j + x.size) (by omega) h.1
  refine bytes_eq (by omega) (fun i hi => ?_)
  rw [bAt_ext _ _ _ _ (by omega) h.1, h.2 i (by omega)]
theorem At.of {d : ByteArray} {j k : Nat} (h1 : j ≤ k) (h2 : k ≤ d.size) : At d j (d.extract j k) := by
  have hs := size_extract d j k h1 h2
  exact ⟨by omega, fun i hi => by rw [bAt_ext _ _ _ _ (by omega) h2]⟩
theorem At.le {d x : ByteArray} {j : Nat} (h : At d j x) : j + x.size ≤ d.size := h.1
theorem At.self (d : ByteArray) : At d 0 d := ⟨by omega, fun i hi => by rw [Nat.zero_add]⟩

def catB : List ByteArray → ByteArray
  | [] => ByteArray.empty
  | x :: xs => x ++ catB xs

theorem codU_acc : ∀ (m : Nat) (acc : ByteArray) (u : Nat), codU m acc u = acc ++ codU m ByteArray.empty u
  | 0, acc, u => by simp [codU]
  | m + 1, acc, u => by
    rw [codU, codU]
    split
    · rw [codU_acc m (acc ++ _), codU_acc m (ByteArray.empty ++ _)]; simp [ByteArray.append_assoc]
    · simp
theorem codU_small {m u : Nat} (h : u < 128) : codU m ByteArray.empty u = oneB u := by
  cases m with
  | zero => simp [codU]
  | succ m => rw [codU, if_neg (by omega)]; simp
theorem codU_big {m u : Nat} (h : 128 ≤ u) : codU (m + 1) ByteArray.empty u = oneB (u % 128 + 128) ++ codU m ByteArray.empty (u / 128) := by
  rw [codU, if_pos h, codU_acc]; simp
theorem uAtL_mk {d : ByteArray} {a : Nat} : ∀ (m m' k u x U : Nat), U < 128 ^ (m + 1) → U < 128 ^ (m' + 1) → (0 < k → U ≠ 0) → At d (a + k) (codU m' ByteArray.empty U) →
    uAtL d a (m + 1) k u x = some (u + U * x, a + k + (codU m' ByteArray.empty U).size) := by
  intro m
  induction m with
  | zero =>
    intro m' k u x U h1 h2 h3 h4
    have hU : U < 128 := by simpa using h1
    rw [uAtL]
    rw [codU_small hU] at h4 ⊢
    rw [At.one (by omega)] at h4
    rw [h4, if_neg (by omega), if_pos (by omega), oneB_size]
    simp
  | succ m ih =>
    intro m' k u x U h1 h2 h3 h4
    rw [uAtL]
    by_cases hU : U < 128
    · rw [codU_small hU] at h4 ⊢
      rw [At.one (by omega)] at h4
      rw [h4, if_neg (by omega), if_pos (by omega), oneB_size]
      simp
    · cases m' with
      | zero => simp at h2; omega
      | succ m' =>
        rw [codU_big (by omega)] at h4 ⊢
        rw [At.app, At.one (by omega), oneB_size] at h4
        obtain ⟨h5, h6⟩ := h4
        rw [h5, if_neg (by omega), if_neg (by omega)]
        have e1 : (((U % 128 + 128 : Nat) : Int).toNat - 128) = U % 128 := by omega
        rw [e1, ih m' (k + 1) _ _ (U / 128) (by rw [Nat.pow_succ] at h1; omega) (by rw [Nat.pow_succ] at h2; omega) (fun _ => by omega) h6]
        have e2 : U / 128 * (x * 128) = U / 128 * 128 * x := by rw [Nat.mul_comm x 128, Nat.mul_assoc]
        have e3 : u + U % 128 * x + U / 128 * (x * 128) = u + U * x := by
          rw [e2, Nat.add_assoc, ← Nat.add_mul, show U % 128 + U / 128 * 128 = U by omega]
        have e4 : a + (k + 1) + (codU m' ByteArray.empty (U / 128)).size = a + k + (oneB (U % 128 + 128) ++ codU m' ByteArray.empty (U / 128)).size := by
          rw [ByteArray.size_append, oneB_size]; omega
        rw [e3, e4]
theorem uAtL_un {d : ByteArray} {a : Nat} : ∀ (m m' k u x v e : Nat), m ≤ m' + 1 → uAtL d a m k u x = some (v, e) →
    ∃ U, v = u + U * x ∧ U < 128 ^ m ∧ (0 < k → U ≠ 0) ∧ At d (a + k) (codU m' ByteArray.empty U) ∧ e = a + k + (codU m' ByteArray.empty U).size := by
  intro m
  induction m with
  | zero => intro m' k u x v e hm h; simp [uAtL] at h
  | succ m ih =>
    intro m' k u x v e hm h
    rw [uAtL] at h
    have hhi := bAt_hi d (a + k)
    split at h
    · cases h
    · rename_i hc
      split at h
      · rename_i hd
        simp only [Option.some.injEq, Prod.mk.injEq] at h
        obtain ⟨rfl, rfl⟩ := h
        refine ⟨(bAt d (a + k)).toNat, rfl, ?_, by omega, ?_, ?_⟩
        · have : 128 ≤ 128 ^ (m + 1) := by rw [Nat.pow_succ]; have := Nat.pow_pos (n := m) (show 0 < 128 by omega); omega
          omega
        · rw [codU_small (by omega), At.one (by omega)]; omega
        · rw [codU_small (by omega), oneB_size]
      · rename_i hd
        cases m' with
        | zero =>
          obtain rfl : m = 0 := by omega
          simp [uAtL] at h
        | succ m' =>
          obtain ⟨U, h1, h2, h3, h4, h5⟩ := ih m' (k + 1) _ _ v e (by omega) h
          have hU := h3 (by omega)
          have hbig : 128 ≤ ((bAt d (a + k)).toNat - 128) + 128 * U := by omega
          have em : (((bAt d (a + k)).toNat - 128) + 128 * U) % 128 = (bAt d (a + k)).toNat - 128 := by omega
          have ed : (((bAt d (a + k)).toNat - 128) + 128 * U) / 128 = U := by omega
          refine ⟨((bAt d (a + k)).toNat - 128) + 128 * U, ?_, ?_, by omega, ?_, ?_⟩
          · rw [h1, Nat.add_assoc, Nat.add_mul, show U * (x * 128) = 128 * U * x by rw [Nat.mul_comm x 128, ← Nat.mul_assoc, Nat.mul_comm U 128]]
          · rw [Nat.pow_succ]; omega
          · rw [codU_big hbig, em, ed, At.app, At.one (by omega), oneB_size]
            exact ⟨by omega, h4⟩
          · rw [codU_big hbig, em, ed, ByteArray.size_append, oneB_size]; omega
theorem zig_unzig (u : Nat) : zig (unzig u) = u := by
  unfold zig unzig; split <;> split <;> omega
theorem unzig_zig (n : Int) : unzig (zig n) = n := by
  unfold zig unzig; split <;> split <;> omega
theorem uAt_mk {d : ByteArray} {j : Nat} {n : Int} (h1 : -1000000000000000 ≤ n) (h2 : n ≤ 1000000000000000) (h : At d j (numData n)) : uAt d j = some (zig n, j + (numData n).size) := by
  have hz : zig n < 128 ^ 8 := by unfold zig; split <;> omega
  have := uAtL_mk (d := d) (a := j) 7 8 0 0 1 (zig n) hz (by omega) (by omega) h
  unfold uAt; rw [this]; simp [numData]
theorem uAt_un {d : ByteArray} {j u e : Nat} (h : uAt d j = some (u, e)) : At d j (numData (unzig u)) ∧ e = j + (numData (unzig u)).size := by
  obtain ⟨U, h1, h2, h3, h4, h5⟩ := uAtL_un (d := d) (a := j) 8 8 0 0 1 u e (by omega) h
  obtain rfl : U = u := by omega
  unfold numData; rw [zig_unzig]
  exact ⟨h4, h5⟩

/-- The data of a value. -/
def datV : Nat → Val → ByteArray
  | 0, _ => ByteArray.empty
  | n + 1, v =>
    if v.tag = 0 then numData v.n
    else if v.tag = 1 then oneB v.s.size ++ v.s
    else if v.tag = 2 then oneB v.n.toNat
    else if v.tag = 3 then oneB v.vs.length ++ catB (v.vs.map (datV n))
    else if v.tag = 4 then oneB 0
    else if v.tag = 5 then oneB 1 ++ datV n v.hd
    else catB (v.vs.map (datV n))
theorem datV_num (n : Nat) (x : Int) : datV (n + 1) (.num x) = numData x := rfl
theorem datV_str (n : Nat) (s : ByteArray) : datV (n + 1) (.str s) = oneB s.size ++ s := rfl
theorem datV_cho (n i : Nat) : datV (n + 1) (.cho i) = oneB i := rfl
theorem datV_lst (n : Nat) (vs : List Val) : datV (n + 1) (.lst vs) = oneB vs.length ++ catB (vs.map (datV n)) := rfl
theorem datV_non (n : Nat) : datV (n + 1) .non = oneB 0 := rfl
theorem datV_som (n : Nat) (v : Val) : datV (n + 1) (.som v) = oneB 1 ++ datV n v := rfl
theorem datV_rcd (n : Nat) (vs : List Val) : datV (n + 1) (.rcd vs) = catB (vs.map (datV n)) := rfl
/-- The text of a list out of those of its items, behind 't'. -/
def itemsT : Nat → List ByteArray → ByteArray → ByteArray
  | _, [], t => t ++ ⟨#[93]⟩
  | k, x :: xs, t => itemsT (k + 1) xs ((if 0 < k then t ++ ⟨#[44]⟩ else t) ++ x)
/-- The text of a record out of its fields' letters and texts, behind 't'. -/
def fldsT : List (Nat × ByteArray) → ByteArray → ByteArray → ByteArray
  | [], _, t => t ++ ⟨#[125]⟩
  | p :: ps, mk, t => fldsT ps ⟨#[44]⟩ (t ++ (((mk ++ oneB p.1) ++ ⟨#[58]⟩) ++ p.2))
/-- The text of a value of a type. -/
def txtV : Nat → Ty → Val → ByteArray
  | 0, _, _ => ByteArray.empty
  | n + 1, ty, v =>
    if v.tag = 0 then decI v.n
    else if v.tag = 1 then quo ++ v.s ++ quo
    else if v.tag = 2 then oneB (bAt ty.letters v.n.toNat).toNat
    else if v.tag = 3 then itemsT 0 (v.vs.map (txtV n ty.in)) ⟨#[91]⟩
    else if v.tag = 4 then ⟨#[95]⟩
    else if v.tag = 5 then txtV n ty.in v.hd
    else fldsT ((ty.fields.zip v.vs).map fun p => (p.1.1, txtV n p.1.2.1 p.2)) ⟨#[123]⟩ ByteArray.empty
theorem txtV_num (n : Nat) (ty : Ty) (x : Int) : txtV (n + 1) ty (.num x) = decI x := rfl
theorem txtV_str (n : Nat) (ty : Ty) (s : ByteArray) : txtV (n + 1) ty (.str s) = quo ++ s ++ quo := rfl
theorem txtV_cho (n : Nat) (ty : Ty) (i : Nat) : txtV (n + 1) ty (.cho i) = oneB (bAt ty.letters i).toNat := rfl
theorem txtV_lst (n : Nat) (ty : Ty) (vs : List Val) : txtV (n + 1) ty (.lst vs) = itemsT 0 (vs.map (txtV n ty.in)) ⟨#[91]⟩ := rfl
theorem txtV_non (n : Nat) (ty : Ty) : txtV (n + 1) ty .non = ⟨#[95]⟩ := rfl
theorem txtV_som (n : Nat) (ty : Ty) (v : Val) : txtV (n + 1) ty (.som v) = txtV n ty.in v := rfl
theorem txtV_rcd (n : Nat) (ty : Ty) (vs : List Val) : txtV (n + 1) ty (.rcd vs) = fldsT ((ty.fields.zip vs).map fun p => (p.1.1, txtV n p.1.2.1 p.2)) ⟨#[123]⟩ ByteArray.empty := rfl
/-- It is a value of the type. -/
def okV : Nat → Ty → Val → Prop
  | 0, _, _ => False
  | n + 1, ty, v =>
    (∃ x, v = .num x ∧ ((ty.kind = 105 ∧ -2147483648 ≤ x ∧ x ≤ 2147483647) ∨ (ty.kind = 108 ∧ -1000000000000000 ≤ x ∧ x ≤ 1000000000000000))) ∨
    (∃ s, v = .str s ∧ ty.kind = 115 ∧ s.size ≤ 60 ∧ allS s s.size 0 = true) ∨
    (∃ i, v = .cho i ∧ ty.kind = 60 ∧ i < ty.letters.size ∧ i < 256) ∨
    (∃ vs, v = .lst vs ∧ ty.kind = 91 ∧ vs.length ≤ 16 ∧ ∀ v ∈ vs, okV n ty.in v) ∨
    (v = .non ∧ ty.kind = 63) ∨
    (∃ u, v = .som u ∧ ty.kind = 63 ∧ okV n ty.in u) ∨
    (∃ vs, v = .rcd vs ∧ ty.kind = 123 ∧ ty.fields ≠ [] ∧ vs.length = ty.fields.length ∧ ∀ p ∈ ty.fields.zip vs, okV n p.1.2.1 p.2)
theorem okV_num {n : Nat} {ty : Ty} {x : Int} (h : (ty.kind = 105 ∧ -2147483648 ≤ x ∧ x ≤ 2147483647) ∨ (ty.kind = 108 ∧ -1000000000000000 ≤ x ∧ x ≤ 1000000000000000)) : okV (n + 1) ty (.num x) := .inl ⟨x, rfl, h⟩
theorem okV_str {n : Nat} {ty : Ty} {s : ByteArray} (h : ty.kind = 115 ∧ s.size ≤ 60 ∧ allS s s.size 0 = true) : okV (n + 1) ty (.str s) := .inr (.inl ⟨s, rfl, h⟩)
theorem okV_cho {n : Nat} {ty : Ty} {i : Nat} (h : ty.kind = 60 ∧ i < ty.letters.size ∧ i < 256) : okV (n + 1) ty (.cho i) := .inr (.inr (.inl ⟨i, rfl, h⟩))
theorem okV_lst {n : Nat} {ty : Ty} {vs : List Val} (h : ty.kind = 91 ∧ vs.length ≤ 16 ∧ ∀ v ∈ vs, okV n ty.in v) : okV (n + 1) ty (.lst vs) := .inr (.inr (.inr (.inl ⟨vs, rfl, h⟩)))
theorem okV_non {n : Nat} {ty : Ty} (h : ty.kind = 63) : okV (n + 1) ty .non := .inr (.inr (.inr (.inr (.inl ⟨rfl, h⟩))))
theorem okV_som {n : Nat} {ty : Ty} {v : Val} (h : ty.kind = 63 ∧ okV n ty.in v) : okV (n + 1) ty (.som v) := .inr (.inr (.inr (.inr (.inr (.inl ⟨v, rfl, h⟩)))))
theorem okV_rcd {n : Nat} {ty : Ty} {vs : List Val} (h : ty.kind = 123 ∧ ty.fields ≠ [] ∧ vs.length = ty.fields.length ∧ ∀ p ∈ ty.fields.zip vs, okV n p.1.2.1 p.2) : okV (n + 1) ty (.rcd vs) := .inr (.inr (.inr (.inr (.inr (.inr ⟨vs, rfl, h⟩)))))

theorem allS_at {d s : ByteArray} : ∀ (m j i : Nat), (∀ k, k < m → bAt d (j + k) = bAt s (i + k)) → allS d m j = allS s m i
  | 0, j, i, h => rfl
  | m + 1, j, i, h => by
    have h0 := h 0 (by omega)
    simp only [Nat.add_zero] at h0
    rw [allS, allS, h0, allS_at m (j + 1) (i + 1) (fun k hk => by have := h (k + 1) (by omega); rw [show j + 1 + k = j + (k + 1) by omega, show i + 1 + k = i + (k + 1) by omega]; exact this)]
theorem decStr_mk {d s : ByteArray} {j : Nat} (h1 : s.size ≤ 60) (h2 : allS s s.size 0 = true) (h : At d j (oneB s.size ++ s)) : decStr d j = some (quo ++ s ++ quo, j + (oneB s.size ++ s).size) := by
  rw [At.app, At.one (by omega), oneB_size] at h
  obtain ⟨h3, h4⟩ := h
  unfold decStr
  rw [h3, if_neg (by omega), Int.toNat_natCast, h4.ext, if_pos, ByteArray.size_append, oneB_size]
  · congr 2; omega
  · rw [← h2]; exact allS_at _ _ _ (fun k hk => by rw [h4.2 k hk, Nat.zero_add])
theorem decStr_un {d t : ByteArray} {j k : Nat} (h : decStr d j = some (t, k)) : ∃ s : ByteArray, s.size ≤ 60 ∧ allS s s.size 0 = true ∧ At d j (oneB s.size ++ s) ∧ k = j + (oneB s.size ++ s).size ∧ t = quo ++ s ++ quo := by
  have hb := decStr_bd h
  unfold decStr at h
  split at h
  · cases h
  · rename_i hc
    split at h
    · rename_i hl
      simp only [Option.some.injEq, Prod.mk.injEq] at h
      obtain ⟨rfl, rfl⟩ := h
      have hs := size_extract d (j + 1) (j + 1 + (bAt d j).toNat) (by omega) (by omega)
      refine ⟨d.extract (j + 1) (j + 1 + (bAt d j).toNat), by omega, ?_, ?_, ?_, rfl⟩
      · rw [← hl, hs, show j + 1 + (bAt d j).toNat - (j + 1) = (bAt d j).toNat by omega]
        exact allS_at _ _ _ (fun k hk => by rw [Nat.zero_add, bAt_ext _ _ _ _ (by omega) (by omega)])
      · rw [At.app, At.one (by omega), oneB_size, hs]
        exact ⟨by omega, At.of (by omega) (by omega)⟩
      · rw [ByteArray.size_append, oneB_size, hs]; omega
    · cases h
theorem decItems_mk {d : ByteArray} {f : Nat → Option (ByteArray × Nat)} {dv tv : Val → ByteArray} : ∀ (vs : List Val) (k fr : Nat) (t : ByteArray), (∀ v ∈ vs, ∀ j, At d j (dv v) → f j = some (tv v, j + (dv v).size)) →
    At d fr (catB (vs.map dv)) → decItems f vs.length k fr t = some (itemsT k (vs.map tv) t, fr + (catB (vs.map dv)).size)
  | [], k, fr, t, hf, h => by simp [decItems, itemsT, catB]
  | v :: vs, k, fr, t, hf, h => by
    simp only [List.map_cons, catB] at h ⊢
    rw [At.app] at h
    rw [List.length_cons, decItems, hf v (by simp) fr h.1]
    simp only
    rw [decItems_mk vs (k + 1) (fr + (dv v).size) _ (fun v hv => hf v (by simp [hv])) h.2, itemsT, ByteArray.size_append, Nat.add_assoc]
theorem decItems_un {d : ByteArray} {f : Nat → Option (ByteArray × Nat)} {dv tv : Val → ByteArray} {ok : Val → Prop} (hf : ∀ j t k, f j = some (t, k) → ∃ v, ok v ∧ At d j (dv v) ∧ k = j + (dv v).size ∧ t = tv v) :
    ∀ (m k fr : Nat) (t t' : ByteArray) (e : Nat), fr ≤ d.size → decItems f m k fr t = some (t', e) → ∃ vs : List Val, vs.length = m ∧ (∀ v ∈ vs, ok v) ∧ At d fr (catB (vs.map dv)) ∧ e = fr + (catB (vs.map dv)).size ∧ t' = itemsT k (vs.map tv) t
  | 0, k, fr, t, t', e, hd, h => by
    simp only [decItems, Option.some.injEq, Prod.mk.injEq] at h
    obtain ⟨rfl, rfl⟩ := h
    exact ⟨[], rfl, fun v hv => absurd hv List.not_mem_nil, At.nil hd, by simp [catB], rfl⟩
  | m + 1, k, fr, t, t', e, hd, h => by
    rw [decItems] at h
    split at h
    · cases h
    · rename_i y nx hy
      obtain ⟨v, hv1, hv2, rfl, rfl⟩ := hf _ _ _ hy
      obtain ⟨vs, h1, h2, h3, h4, h5⟩ := decItems_un hf m (k + 1) _ _ t' e hv2.1 h
      refine ⟨v :: vs, by simp [h1], fun u hu => ?_, ?_, ?_, ?_⟩
      · rcases List.mem_cons.1 hu with rfl | hu
        · exact hv1
        · exact h2 u hu
      · simp only [List.map_cons, catB]; rw [At.app]; exact ⟨hv2, h3⟩
      · simp only [List.map_cons, catB, ByteArray.size_append]; omega
      · simp only [List.map_cons, itemsT]; exact h5
theorem decFlds_mk {d : ByteArray} {f : Ty → Nat → Option (ByteArray × Nat)} {dv : Val → ByteArray} {tv : Ty → Val → ByteArray} : ∀ (fs : List (Nat × Ty × ByteArray)) (vs : List Val) (mk : ByteArray) (fr : Nat) (t : ByteArray), vs.length = fs.length →
    (∀ p ∈ fs.zip vs, ∀ j, At d j (dv p.2) → f p.1.2.1 j = some (tv p.1.2.1 p.2, j + (dv p.2).size)) →
    At d fr (catB (vs.map dv)) → decFlds f fs mk fr t = some (fldsT ((fs.zip vs).map fun p => (p.1.1, tv p.1.2.1 p.2)) mk t, fr + (catB (vs.map dv)).size)
  | [], [], mk, fr, t, hl, hf, h => by simp [decFlds, fldsT, catB]
  | [], v :: vs, mk, fr, t, hl, hf, h => by simp at hl
  | g :: fs, [], mk, fr, t, hl, hf, h => by simp at hl
  | g :: fs, v :: vs, mk, fr, t, hl, hf, h => by
    simp only [List.map_cons, catB] at h ⊢
    rw [At.app] at h
    rw [decFlds, hf (g, v) (by simp) fr h.1]
    simp only
    rw [decFlds_mk fs vs _ (fr + (dv v).size) _ (by simpa using hl) (fun p hp => hf p (by simp [hp])) h.2, ByteArray.size_append, Nat.add_assoc]
    simp only [List.zip_cons_cons, List.map_cons, fldsT]
theorem decFlds_un {d : ByteArray} {f : Ty → Nat → Option (ByteArray × Nat)} {dv : Val → ByteArray} {tv : Ty → Val → ByteArray} {ok : Ty → Val → Prop} (hf : ∀ ty j t k, f ty j = some (t, k) → ∃ v, ok ty v ∧ At d j (dv v) ∧ k = j + (dv v).size ∧ t = tv ty v) :
    ∀ (fs : List (Nat × Ty × ByteArray)) (mk : ByteArray) (fr : Nat) (t t' : ByteArray) (e : Nat), fr ≤ d.size → decFlds f fs mk fr t = some (t', e) →
    ∃ vs : List Val, vs.length = fs.length ∧ (∀ p ∈ fs.zip vs, ok p.1.2.1 p.2) ∧ At d fr (catB (vs.map dv)) ∧ e = fr + (catB (vs.map dv)).size ∧ t' = fldsT ((fs.zip vs).map fun p => (p.1.1, tv p.1.2.1 p.2)) mk t
  | [], mk, fr, t, t', e, hd, h => by
    simp only [decFlds, Option.some.injEq, Prod.mk.injEq] at h
    obtain ⟨rfl, rfl⟩ := h
    exact ⟨[], rfl, fun p hp => absurd hp (by simp), At.nil hd, by simp [catB], rfl⟩
  | g :: fs, mk, fr, t, t', e, hd, h => by
    rw [decFlds] at h
    split at h
    · cases h
    · rename_i y nx hy
      obtain ⟨v, hv1, hv2, rfl, rfl⟩ := hf _ _ _ _ hy
      obtain ⟨vs, h1, h2, h3, h4, h5⟩ := decFlds_un hf fs _ _ _ t' e hv2.1 h
      refine ⟨v :: vs, by simp [h1], fun p hp => ?_, ?_, ?_, ?_⟩
      · rw [List.zip_cons_cons] at hp
        rcases List.mem_cons.1 hp with rfl | hp
        · exact hv1
        · exact h2 p hp
      · simp only [List.map_cons, catB]; rw [At.app]; exact ⟨hv2, h3⟩
      · simp only [List.map_cons, catB, ByteArray.size_append]; omega
      · simp only [List.zip_cons_cons, List.map_cons, fldsT]; exact h5

/-- A value's data are told as its text. -/
theorem dec_mk {d : ByteArray} : ∀ (n : Nat) (ty : Ty) (v : Val) (j : Nat), okV n ty v → At d j (datV n v) → dec d n ty j = some (txtV n ty v, j + (datV n v).size)
  | 0, ty, v, j, hv, h => hv.elim
  | n + 1, ty, v, j, hv, h => by
    have ih := dec_mk (d := d) n
    rcases hv with ⟨x, rfl, hv⟩ | ⟨s, rfl, hv⟩ | ⟨i, rfl, hv⟩ | ⟨vs, rfl, hv⟩ | ⟨rfl, hv⟩ | ⟨v, rfl, hv⟩ | ⟨vs, rfl, hv⟩
    · rw [datV_num] at h ⊢
      rw [txtV_num]
      rcases hv with ⟨hk, h1, h2⟩ | ⟨hk, h1, h2⟩
      · rw [dec, if_pos hk]; unfold decNum; rw [uAt_mk (by omega) (by omega) h]; simp only [unzig_zig]; rw [if_neg (by omega)]
      · rw [dec, if_neg (by omega), if_pos hk]; unfold decNum; rw [uAt_mk (by omega) (by omega) h]; simp only [unzig_zig]; rw [if_neg (by omega)]
    · rw [datV_str] at h ⊢
      rw [txtV_str]
      rw [dec, if_neg (by omega), if_neg (by omega), if_pos hv.1, decStr_mk hv.2.1 hv.2.2 h]
    · rw [datV_cho] at h ⊢
      rw [txtV_cho]
      rw [At.one hv.2.2] at h
      have := bAt_in ty.letters i hv.2.1
      rw [dec, if_neg (by omega), if_neg (by omega), if_neg (by omega), if_pos hv.1]; unfold decCho; rw [h, Int.toNat_natCast, if_neg (by omega), oneB_size]
    · rw [datV_lst] at h ⊢
      rw [txtV_lst]
      rw [At.app, At.one (by omega), oneB_size] at h
      rw [dec, if_neg (by omega), if_neg (by omega), if_neg (by omega), if_neg (by omega), if_pos hv.1]; unfold decList
      rw [h.1, if_neg (by omega), Int.toNat_natCast, decItems_mk (dv := datV n) (tv := txtV n ty.in) vs 0 (j + 1) _ (fun v hv' j h => ih ty.in v j (hv.2.2 v hv') h) h.2, ByteArray.size_append, oneB_size, Nat.add_assoc]
    · rw [datV_non] at h ⊢
      rw [txtV_non]
      rw [At.one (by omega)] at h
      rw [dec, if_neg (by omega), if_neg (by omega), if_neg (by omega), if_neg (by omega), if_neg (by omega), if_pos hv]; unfold decMaybe; rw [h, if_pos (by omega), oneB_size]
    · rw [datV_som] at h ⊢
      rw [txtV_som]
      rw [At.app, At.one (by omega), oneB_size] at h
      rw [dec, if_neg (by omega), if_neg (by omega), if_neg (by omega), if_neg (by omega), if_neg (by omega), if_pos hv.1]; unfold decMaybe
      rw [h.1, if_neg (by omega), if_pos (by omega), ih ty.in v _ hv.2 h.2, ByteArray.size_append, oneB_size, Nat.add_assoc]
    · rw [datV_rcd] at h ⊢
      rw [txtV_rcd]
      rw [dec, if_neg (by omega), if_neg (by omega), if_neg (by omega), if_neg (by omega), if_neg (by omega), if_neg (by omega), if_pos ⟨hv.1, hv.2.1⟩]
      exact decFlds_mk (dv := datV n) (tv := txtV n) ty.fields vs _ j _ hv.2.2.1 (fun p hp j h => ih p.1.2.1 p.2 j (hv.2.2.2 p hp) h) h
/-- What is told of data is the text of a value, and they are its data. -/
theorem dec_un {d : ByteArray} : ∀ (n : Nat) (ty : Ty) (j : Nat) (t : ByteArray) (k : Nat), j ≤ d.size → dec d n ty j = some (t, k) → ∃ v, okV n ty v ∧ At d j (datV n v) ∧ k = j + (datV n v).size ∧ t = txtV n ty v
  | 0, ty, j, t, k, hj, h => by simp [dec] at h
  | n + 1, ty, j, t, k, hj, h => by
    have ih := dec_un (d := d) n
    have ih' : ∀ ty j t k, dec d n ty j = some (t, k) → ∃ v, okV n ty v ∧ At d j (datV n v) ∧ k = j + (datV n v).size ∧ t = txtV n ty v := fun ty j t k h => ih ty j t k (by have := dec_bd h; omega) h
    have hnum : ∀ lo hi, decNum lo hi d j = some (t, k) → ∃ x, lo ≤ x ∧ x ≤ hi ∧ At d j (numData x) ∧ k = j + (numData x).size ∧ t = decI x := by
      intro lo hi h
      unfold decNum at h
      split at h
      · cases h
      · rename_i u e hu
        split at h
        · cases h
        · rename_i hc
          simp only [Option.some.injEq, Prod.mk.injEq] at h
          obtain ⟨rfl, rfl⟩ := h
          have := uAt_un hu
          exact ⟨unzig u, by omega, by omega, this.1, this.2, rfl⟩
    rw [dec] at h
    split at h
    · rename_i hk
      obtain ⟨x, h1, h2, h3, h4, h5⟩ := hnum _ _ h
      exact ⟨.num x, okV_num (.inl ⟨hk, h1, h2⟩), h3, h4, h5⟩
    · split at h
      · rename_i hk
        obtain ⟨x, h1, h2, h3, h4, h5⟩ := hnum _ _ h
        exact ⟨.num x, okV_num (.inr ⟨hk, h1, h2⟩), h3, h4, h5⟩
      · split at h
        · rename_i hk
          obtain ⟨s, h1, h2, h3, h4, h5⟩ := decStr_un h
          exact ⟨.str s, okV_str ⟨hk, h1, h2⟩, h3, h4, h5⟩
        · split at h
          · rename_i hk
            unfold decCho at h
            split at h
            · cases h
            · rename_i hc
              simp only [Option.some.injEq, Prod.mk.injEq] at h
              obtain ⟨rfl, rfl⟩ := h
              have hhi := bAt_hi d j
              have hl : (bAt d j).toNat < ty.letters.size := bAt_lt (by omega)
              refine ⟨.cho (bAt d j).toNat, okV_cho ⟨hk, hl, by omega⟩, ?_, ?_, rfl⟩
              · rw [datV_cho, At.one (by omega)]; omega
              · rw [datV_cho, oneB_size]
          · split at h
            · rename_i hk
              unfold decList at h
              split at h
              · cases h
              · rename_i hc
                have hl : j < d.size := bAt_lt (by omega)
                obtain ⟨vs, h1, h2, h3, h4, h5⟩ := decItems_un (dv := datV n) (tv := txtV n ty.in) (ok := okV n ty.in) (fun j t k h => ih' ty.in j t k h) _ _ _ _ _ _ (by omega) h
                refine ⟨.lst vs, okV_lst ⟨hk, by omega, h2⟩, ?_, ?_, h5⟩
                · rw [datV_lst, At.app, At.one (by omega), oneB_size]; exact ⟨by omega, h3⟩
                · rw [datV_lst, ByteArray.size_append, oneB_size]; omega
            · split at h
              · rename_i hk
                unfold decMaybe at h
                split at h
                · rename_i h0
                  simp only [Option.some.injEq, Prod.mk.injEq] at h
                  obtain ⟨rfl, rfl⟩ := h
                  refine ⟨.non, okV_non hk, ?_, ?_, rfl⟩
                  · rw [datV_non, At.one (by omega)]; omega
                  · rw [datV_non, oneB_size]
                · split at h
                  · rename_i h1
                    obtain ⟨v, h2, h3, h4, h5⟩ := ih' _ _ _ _ h
                    refine ⟨.som v, okV_som ⟨hk, h2⟩, ?_, ?_, h5⟩
                    · rw [datV_som, At.app, At.one (by omega), oneB_size]; exact ⟨by omega, h3⟩
                    · rw [datV_som, ByteArray.size_append, oneB_size]; omega
                  · cases h
              · split at h
                · rename_i hk
                  obtain ⟨vs, h1, h2, h3, h4, h5⟩ := decFlds_un (dv := datV n) (tv := txtV n) (ok := okV n) (fun ty j t k h => ih' ty j t k h) _ _ _ _ _ _ hj h
                  exact ⟨.rcd vs, okV_rcd ⟨hk.1, hk.2, h1, h2⟩, h3, h4, h5⟩
                · cases h
end Go.Proofs.YtkkekopomiehlaaDoor
