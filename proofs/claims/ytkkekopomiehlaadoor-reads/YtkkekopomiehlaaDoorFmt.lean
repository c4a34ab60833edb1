import Derived.Test.YtkkekopomiehlaaDoorShelf
import Derived.Test.YtkkekopomiehlaaDoorDec7
import Derived.Lib.AppendIntMem
import Derived.Lib.LaidTab
set_option linter.unusedVariables false
set_option linter.unusedSimpArgs false
namespace Go.Proofs.YtkkekopomiehlaaDoor
open Go.RowKit

theorem decS_list : ∀ (m u : Nat), u < 10 ^ (m + 1) → decS m u = ⟨(Lib.decDigits u).toArray⟩
  | 0, u, h => by
    rw [decS, Lib.decDigits, dif_pos (by simpa using h)]; rfl
  | m + 1, u, h => by
    rw [decS, Lib.decDigits]
    by_cases hu : u < 10
    · rw [if_pos hu, dif_pos hu]; rfl
    · rw [if_neg hu, dif_neg hu, decS_list m (u / 10) (by rw [Nat.pow_succ] at h; omega)]
      apply ByteArray.ext
      simp [oneB]
theorem decI_list (n : Int) (h0 : -1000000000000000 ≤ n) (h1 : n ≤ 1000000000000000) : decI n = ⟨(Lib.itoa n).toArray⟩ := by
  unfold decI Lib.itoa
  by_cases hn : n < 0
  · rw [if_pos hn, if_pos hn, decS_list 18 _ (by omega), show (-n).toNat = n.natAbs by omega]
    apply ByteArray.ext
    simp
  · rw [if_neg hn, if_neg hn, decS_list 18 _ (by omega)]

/-- The table of strconv's powers of ten lies in the world. -/
def Tab (w : World) : Prop := Lib.TabIs Tryd.prog w "internal/strconv.uint64pow10" .u64 Lib.pow10Tab
theorem g_pow : Tryd.prog.globalNamed "internal/strconv.uint64pow10" = some 0 := by kernel_rfl
theorem g_powType : (Tryd.prog.globals[0]?).map (·.type) = some 110 := by kernel_rfl
theorem cells_tab : Tryd.prog.cellsOf 110 = 20 := by kernel_rfl
theorem cells_u64 : Tryd.prog.cellsOf 103 = 1 := by kernel_rfl
theorem Tab.lt {w : World} (h : Tab w) : 0 < w.heap.size := by
  have := Lib.TabIs.cell h g_pow 0 (by decide)
  exact lt_of_cell this
theorem Tab.keep {w w' : World} (hb : Below w.heap.size w w') (h : Tab w) : Tab w' := by
  have hl := h.lt
  unfold Tab Lib.TabIs World.var? at h ⊢
  rw [g_pow] at h ⊢
  simp only [Option.bind_some] at h ⊢
  rw [hb.block _ hl]; exact h
theorem fmtOK : FmtOK Tab := by
  refine ⟨fun w w' hb h => h.keep hb, fun n w h0 h1 hT => ?_⟩
  refine (Tryd.strconv_FormatInt_10 n (by omega) (by omega) w hT).mono ?_
  rintro e w' ⟨rfl, k, os, rfl⟩
  rw [decI_list n h0 h1]
  exact ⟨rfl, Lib.below_grow _ w (Nat.le_refl _) k os⟩
end Go.Proofs.YtkkekopomiehlaaDoor
