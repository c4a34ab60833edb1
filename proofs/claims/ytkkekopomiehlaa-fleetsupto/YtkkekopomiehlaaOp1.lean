import Derived.Test.YtkkekopomiehlaaRows
import Derived.Test.YtkkekopomiehlaaFl5
import Derived.Deep.Slices
import Derived.Deep.Strs
import Derived.Carry
set_option linter.unusedVariables false
set_option linter.unusedSimpArgs false
set_option maxRecDepth 4000
namespace Go.Proofs.Ytkkekopomiehlaa
open Go.RowKit Go.ChangeShapes Go.WideShapes

theorem bulk_pos {H : Type} (d : DataW H) : 1 ≤ Rows.uptoBulk d := by
  cases d with
  | lit l => cases l <;> simp [Rows.uptoBulk]
  | _ => simp [Rows.uptoBulk]
theorem bulk_mem {H : Type} : ∀ (l : List (DataW H)) (d : DataW H), d ∈ l → Rows.uptoBulk d ≤ Rows.uptoBulkAll l
  | e :: l, d, h => by
    rw [Rows.uptoBulkAll]
    rcases List.mem_cons.1 h with rfl | h
    · omega
    · have := bulk_mem l d h; omega
theorem bulk_len {H : Type} : ∀ (l : List (DataW H)), l.length ≤ Rows.uptoBulkAll l
  | [] => Nat.zero_le _
  | d :: l => by have := bulk_pos d; have := bulk_len l; rw [Rows.uptoBulkAll, List.length_cons]; omega
theorem list_of {α : Type} {p : Nat → α → Prop} : ∀ (n : Nat), (∀ i, i < n → ∃ z, p i z) → ∃ zs : List α, zs.length = n ∧ ∀ i z, zs[i]? = some z → p i z
  | 0, _ => ⟨[], rfl, fun i z h => by simp at h⟩
  | n + 1, h => by
    obtain ⟨zs, h1, h2⟩ := list_of n (fun i hi => h i (by omega))
    obtain ⟨z, hz⟩ := h n (by omega)
    refine ⟨zs ++ [z], by simp [h1], fun i u hi => ?_⟩
    by_cases hl : i < zs.length
    · rw [List.getElem?_append_left hl] at hi; exact h2 i u hi
    · have := (List.getElem?_eq_some_iff.1 hi).1
      rw [List.length_append, List.length_singleton] at this
      have hie : i = n := by omega
      subst hie
      rw [List.getElem?_append_right (by omega), h1, Nat.sub_self] at hi
      simp at hi
      rw [← hi]; exact hz
section
variable {H : Type} {enc : TypeId × Value → H} {P : Program} {w : World}
theorem add_add (b o m j : Nat) : ((⟨b, o, none⟩ : Addr).add m).add j = ⟨b, o + m + j, none⟩ := by
  unfold Addr.add
  by_cases h1 : m = 0
  · subst h1
    by_cases h2 : j = 0
    · subst h2; rfl
    · simp [h2]
  · by_cases h2 : j = 0
    · subst h2; simp [h1]
    · simp [h1, h2]
theorem open_rows {α : Type} {E : List Value → α → Prop} {t e : TypeId} {k fuel : Nat} {cs0 : List Value} {x : DataW H × List MemPlace} (ht : P.underlying t = some (.slice e)) (hk : P.cellsOf e = k) (hk0 : 0 < k)
    (hE : ∀ (n : Nat) (cs : List Value) (y : DataW H × List MemPlace), DataW.trod enc P w 0 (fun _ => true) true n e cs = some y → cs.length = k → Rows.uptoBulk y.1 ≤ 1048576 → ∃ z, E cs z)
    (h : DataW.trod enc P w 0 (fun _ => true) true fuel t cs0 = some x) (hN : Rows.uptoBulk x.1 ≤ 1048576) :
    ∃ (a : Option Addr) (len cap : Nat) (zs : List α), cs0 = [.slice a len cap] ∧ len = zs.length ∧ zs.length ≤ 2000000 ∧ len ≤ cap ∧ cap ≤ 9000000 ∧
      ∀ (i : Nat) (z : α), zs[i]? = some z → ∃ b o cs, a = some ⟨b, o, none⟩ ∧ cs.length = k ∧ (∀ (j : Nat) (v : Value), cs[j]? = some v → w.cell? ⟨b, o + i * k + j, none⟩ = some v) ∧ E cs z := by
  rcases Go.Deep.open_slice ht h with ⟨rfl, rfl⟩ | ⟨a, len, cap, m, n, D, Pl, rfl, hb, hl, hm, hmm, rfl, hx⟩
  · exact ⟨none, 0, 0, [], rfl, rfl, Nat.zero_le _, Nat.le_refl _, Nat.zero_le _, fun i z hi => by simp at hi⟩
  · simp only [if_true] at hmm
    subst hmm
    rw [hk] at hx
    have hbul : Rows.uptoBulkAll ((List.range len).map D) + Rows.uptoBulkAll ((List.range (m - len)).map fun j => D (len + j)) + 1 ≤ 1048576 := by
      have := hN; simp only [Rows.uptoBulk] at this; exact this
    have hl1 := bulk_len ((List.range len).map D)
    have hl2 := bulk_len ((List.range (m - len)).map fun j => D (len + j))
    rw [List.length_map, List.length_range] at hl1 hl2
    obtain ⟨zs, hz1, hz2⟩ := list_of (α := α) (p := fun i z => ∃ cs, w.cells? 0 (a.add (i * k)) k = some cs ∧ E cs z) len (fun i hi => by
      obtain ⟨cs', h1, h2⟩ := hx i (by omega)
      have hd : Rows.uptoBulk (D i) ≤ 1048576 := by
        have := bulk_mem ((List.range len).map D) (D i) (List.mem_map.2 ⟨i, List.mem_range.2 hi, rfl⟩)
        omega
      obtain ⟨z, hz⟩ := hE n cs' (D i, Pl i) h2 (World.cells?_some h1).2.1 hd
      exact ⟨z, cs', h1, hz⟩)
    refine ⟨some a, len, m, zs, rfl, hz1.symm, by omega, hl, by omega, fun i z hi => ?_⟩
    obtain ⟨cs, h1, h2⟩ := hz2 i z hi
    have hil := (List.getElem?_eq_some_iff.1 hi).1
    obtain ⟨cs', g1, _⟩ := hx 0 (by omega)
    obtain ⟨_, g2, g3⟩ := World.cells?_some g1
    have g4 := g3 0 hk0
    obtain ⟨v0, hv0⟩ : ∃ v0, cs'[0]? = some v0 := ⟨cs'[0]'(by omega), List.getElem?_eq_getElem (by omega)⟩
    rw [hv0, Nat.zero_mul] at g4
    obtain ⟨b, o, sp⟩ := a
    obtain rfl : sp = none := by simpa [Addr.add] using World.cell?_spot g4
    obtain ⟨_, q1, q2⟩ := World.cells?_some h1
    refine ⟨b, o, cs, rfl, q1, fun j v hj => ?_, h2⟩
    have := q2 j (by have := (List.getElem?_eq_some_iff.1 hj).1; omega)
    rw [add_add, hj] at this
    exact this
theorem open_strs' {t e : TypeId} {fuel : Nat} {cs0 : List Value} {x : DataW H × List MemPlace} (ht : P.underlying t = some (.slice e)) (he : P.underlying e = some .string) (hk : P.cellsOf e = 1)
    (h : DataW.trod enc P w 0 (fun _ => true) true fuel t cs0 = some x) (hN : Rows.uptoBulk x.1 ≤ 1048576) :
    ∃ (a : Option Addr) (len cap : Nat) (ss : List ByteArray), cs0 = [.slice a len cap] ∧ len = ss.length ∧ ss.length ≤ 2000000 ∧ (∀ s ∈ ss, s.size ≤ maxLen) ∧ StrsAt w a ss := by
  obtain ⟨a, len, cap, zs, h1, h2, h3, h4, h5, h6⟩ := open_rows (E := fun cs (z : ByteArray) => cs = [.string z] ∧ z.size ≤ maxLen) ht hk (by omega) (fun n cs y hy _ _ => by
    obtain ⟨s, hs, _, hsz⟩ := DataW.trod_string he hy
    exact ⟨s, hs, hsz⟩) h hN
  refine ⟨a, len, cap, zs, h1, h2, h3, fun s hs => ?_, fun i s hi => ?_⟩
  · obtain ⟨i, hi⟩ := List.getElem?_of_mem hs
    obtain ⟨_, _, _, _, _, _, _, g⟩ := h6 i s hi
    exact g
  · obtain ⟨b, o, cs, e1, _, e3, e4, _⟩ := h6 i s hi
    refine ⟨b, o, e1, ?_⟩
    have := e3 0 (.string s) (by rw [e4]; rfl)
    rwa [Nat.mul_one, Nat.add_zero] at this
end
theorem take1 {c : Value} : (([c] : List Value).drop 0).take 1 = [c] := rfl
theorem bulk_agg {H : Type} {parts : List (DataW H)} {d : DataW H} (h : Rows.uptoBulk (.agg parts) ≤ 1048576) (hd : d ∈ parts) : Rows.uptoBulk d ≤ 1048576 := by
  have := bulk_mem parts d hd
  simp only [Rows.uptoBulk] at h
  omega
section
variable {H : Type} {enc : TypeId × Value → H} {w : World}
theorem Try.cellsInt : Try.prog.cellsOf 3 = 1 := by kernel_rfl
theorem Try.cellsStr : Try.prog.cellsOf 9 = 1 := by kernel_rfl
theorem Try.cellsTop : Try.prog.cellsOf 61 = 1 := by kernel_rfl
theorem Try.cellsPin : Try.prog.cellsOf 92 = 3 := by kernel_rfl
theorem Try.cellsRel : Try.prog.cellsOf 68 = 1 := by kernel_rfl
theorem Try.cellsSvc : Try.prog.cellsOf 64 = 4 := by kernel_rfl
theorem Try.cellsFlt : Try.prog.cellsOf 33 = 3 := by kernel_rfl
theorem Try.cellsPins : Try.prog.cellsOf 66 = 1 := by kernel_rfl
theorem Try.cellsRels : Try.prog.cellsOf 62 = 1 := by kernel_rfl
/-- A field of an integer: its cell. -/
theorem int_of {n : Nat} {c : Value} {y : DataW H × List MemPlace} (h : DataW.trod enc Try.prog w 0 (fun _ => true) true n 3 [c] = some y) : ∃ k, c = .int .i64 k := by
  obtain ⟨k, hk, _⟩ := DataW.trod_int Try.underlying3 h
  simp at hk
  exact ⟨k, hk⟩
theorem open_tops {fuel : Nat} {cs0 : List Value} {x : DataW H × List MemPlace} (h : DataW.trod enc Try.prog w 0 (fun _ => true) true fuel 30 cs0 = some x) (hN : Rows.uptoBulk x.1 ≤ 1048576) :
    ∃ (a : Option Addr) (len cap : Nat) (ts : List Int), cs0 = [.slice a len cap] ∧ len = ts.length ∧ ts.length ≤ 2000000 ∧ IntsAt w a ts := by
  obtain ⟨a, len, cap, zs, h1, h2, h3, h4, h5, h6⟩ := open_rows (E := fun cs (z : Int) => cs = [.int .i64 z]) Try.underlying30 Try.cellsTop (by omega) (fun n cs y hy hl _ => by
    obtain ⟨xs, m, _, _, _, hlen, hf⟩ := DataW.trod_struct Try.underlying61 hy
    match cs, hl with
    | [c], _ =>
      match xs, hlen with
      | [y0], _ =>
        have h0 := hf 0 _ rfl
        simp only [List.getElem_toArray, List.getElem_cons_zero, List.getElem_cons_succ, Try.cellsInt] at h0
        obtain ⟨k, hk⟩ := int_of (c := c) h0
        exact ⟨k, by rw [hk]⟩) h hN
  refine ⟨a, len, cap, zs, h1, h2, h3, fun i s hi => ?_⟩
  obtain ⟨b, o, cs, e1, _, e3, e4⟩ := h6 i s hi
  refine ⟨b, o, e1, ?_⟩
  have := e3 0 (.int .i64 s) (by rw [e4]; rfl)
  rwa [Nat.mul_one, Nat.add_zero] at this
theorem open_pins {fuel : Nat} {cs0 : List Value} {x : DataW H × List MemPlace} (h : DataW.trod enc Try.prog w 0 (fun _ => true) true fuel 66 cs0 = some x) (hN : Rows.uptoBulk x.1 ≤ 1048576) :
    ∃ (a : Option Addr) (len cap : Nat) (ps : List PinD), cs0 = [.slice a len cap] ∧ PinSl w a len cap ps := by
  obtain ⟨a, len, cap, zs, h1, h2, h3, h4, h5, h6⟩ := open_rows (E := fun cs (p : PinD) => cs = [.int .i64 p.t, .int .i64 p.w, .int .i64 p.r]) Try.underlying66 Try.cellsPin (by omega) (fun n cs y hy hl _ => by
    obtain ⟨xs, m, _, _, _, hlen, hf⟩ := DataW.trod_struct Try.underlying92 hy
    match cs, hl with
    | [c0, c1, c2], _ =>
      match xs, hlen with
      | [y0, y1, y2], _ =>
        have h0 := hf 0 _ rfl
        have h1 := hf 1 _ rfl
        have h2 := hf 2 _ rfl
        simp only [List.getElem_toArray, List.getElem_cons_zero, List.getElem_cons_succ, Try.cellsInt] at h0 h1 h2
        obtain ⟨k0, hk0⟩ := int_of (c := c0) h0
        obtain ⟨k1, hk1⟩ := int_of (c := c1) h1
        obtain ⟨k2, hk2⟩ := int_of (c := c2) h2
        exact ⟨⟨k0, k1, k2⟩, by rw [hk0, hk1, hk2]⟩) h hN
  refine ⟨a, len, cap, zs, h1, h2, h3, h4, h5, fun i p hi => ?_⟩
  obtain ⟨b, o, cs, e1, _, e3, e4⟩ := h6 i p hi
  subst e4
  exact ⟨b, o, e1, e3 0 _ rfl, e3 1 _ rfl, e3 2 _ rfl⟩
theorem open_rels {fuel : Nat} {cs0 : List Value} {x : DataW H × List MemPlace} (h : DataW.trod enc Try.prog w 0 (fun _ => true) true fuel 62 cs0 = some x) (hN : Rows.uptoBulk x.1 ≤ 1048576) :
    ∃ (a : Option Addr) (len cap : Nat) (rs : List (List PinD)), cs0 = [.slice a len cap] ∧ RelSl PinSl w a len cap rs := by
  obtain ⟨a, len, cap, zs, h1, h2, h3, h4, h5, h6⟩ := open_rows (E := fun cs (ps : List PinD) => ∃ pa pl pc, cs = [.slice pa pl pc] ∧ PinSl w pa pl pc ps) Try.underlying62 Try.cellsRel (by omega) (fun n cs y hy hl hy2 => by
    obtain ⟨xs, m, _, hx, _, hlen, hf⟩ := DataW.trod_struct Try.underlying68 hy
    match cs, hl with
    | [c], _ =>
      match xs, hlen with
      | [y0], _ =>
        have h0 := hf 0 _ rfl
        simp only [List.getElem_toArray, List.getElem_cons_zero, List.getElem_cons_succ, Try.cellsPins] at h0
        rw [hx] at hy2
        obtain ⟨pa, pl, pc, ps, hc, hps⟩ := open_pins (cs0 := [c]) h0 (bulk_agg hy2 (by simp))
        exact ⟨ps, pa, pl, pc, hc, hps⟩) h hN
  refine ⟨a, len, cap, zs, h1, h2, h3, h4, h5, fun i ps hi => ?_⟩
  obtain ⟨b, o, cs, e1, _, e3, pa, pl, pc, e4, e5⟩ := h6 i ps hi
  subst e4
  have := e3 0 _ rfl
  rw [Nat.mul_one, Nat.add_zero] at this
  exact ⟨b, o, pa, pl, pc, e1, this, e5⟩
theorem open_svcs {fuel : Nat} {cs0 : List Value} {x : DataW H × List MemPlace} (h : DataW.trod enc Try.prog w 0 (fun _ => true) true fuel 31 cs0 = some x) (hN : Rows.uptoBulk x.1 ≤ 1048576) :
    ∃ (a : Option Addr) (len cap : Nat) (vs : List SvcD), cs0 = [.slice a len cap] ∧ len = vs.length ∧ vs.length ≤ 2000000 ∧ SvcsAt (RelSl PinSl) w a vs := by
  obtain ⟨a, len, cap, zs, h1, h2, h3, h4, h5, h6⟩ := open_rows (E := fun cs (v : SvcD) => ∃ ra rl rc, cs = [.int .i64 v.size, .int .i64 v.now, .int .i64 v.want, .slice ra rl rc] ∧ RelSl PinSl w ra rl rc v.rels) Try.underlying31 Try.cellsSvc (by omega) (fun n cs y hy hl hy2 => by
    obtain ⟨xs, m, _, hx, _, hlen, hf⟩ := DataW.trod_struct Try.underlying64 hy
    match cs, hl with
    | [c0, c1, c2, c3], _ =>
      match xs, hlen with
      | [y0, y1, y2, y3], _ =>
        have h0 := hf 0 _ rfl
        have h1 := hf 1 _ rfl
        have h2 := hf 2 _ rfl
        have h3 := hf 3 _ rfl
        simp only [List.getElem_toArray, List.getElem_cons_zero, List.getElem_cons_succ, Try.cellsInt, Try.cellsRels] at h0 h1 h2 h3
        obtain ⟨k0, hk0⟩ := int_of (c := c0) h0
        obtain ⟨k1, hk1⟩ := int_of (c := c1) h1
        obtain ⟨k2, hk2⟩ := int_of (c := c2) h2
        rw [hx] at hy2
        obtain ⟨ra, rl, rc, rs, hc, hrs⟩ := open_rels (cs0 := [c3]) h3 (bulk_agg hy2 (by simp))
        simp at hc
        exact ⟨⟨k0, k1, k2, rs⟩, ra, rl, rc, by rw [hk0, hk1, hk2, hc], hrs⟩) h hN
  refine ⟨a, len, cap, zs, h1, h2, h3, fun i v hi => ?_⟩
  obtain ⟨b, o, cs, e1, _, e3, ra, rl, rc, e4, e5⟩ := h6 i v hi
  subst e4
  exact ⟨b, o, ra, rl, rc, e1, e3 0 _ rfl, e3 1 _ rfl, e3 2 _ rfl, e3 3 _ rfl, e5⟩
end
end Go.Proofs.Ytkkekopomiehlaa
