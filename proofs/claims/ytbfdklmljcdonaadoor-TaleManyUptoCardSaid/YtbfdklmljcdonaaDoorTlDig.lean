/- The law's numbers as words. -/
import Derived.Test.YtbfdklmljcdonaaDoorTlRd
namespace Go.Proofs.YtbfdklmljcdonaaDoor
open Go Go.RowKit
set_option linter.unusedVariables false
set_option linter.unusedSimpArgs false
set_option maxRecDepth 10000

theorem one_text (w : World) (c : UInt8) : (convert 52 9 (.slice (some ⟨w.heap.size, 0, none⟩) 1 1)).run Tryd.prog (w.alloc (.cells #[.int .u8 (c.toNat : Int)] 5)) = .ok (.string (stB [c])) (w.alloc (.cells #[.int .u8 (c.toNat : Int)] 5)) := by
  have h9 := Own.lit (w := w) (B := w.heap.size) (n := 1) (size := 1) (cs := #[.int .u8 (c.toNat : Int)]) (E := 5) (Nat.le_refl _) (by omega) rfl
  exact own_text (l := [c]) h9 rfl
theorem stB_app (a b : Bt) : stB a ++ stB b = stB (a ++ b) := by
  apply ByteArray.ext
  simp [stB]
theorem dec_step (U r : Nat) (out : Bt) (h : Lib.decDigits U = Lib.decDigits r ++ out) : (r / 10 = 0 → Lib.decDigits U = UInt8.ofNat (48 + r % 10) :: out) ∧ (r / 10 ≠ 0 → Lib.decDigits U = Lib.decDigits (r / 10) ++ (UInt8.ofNat (48 + r % 10) :: out)) := by
  constructor
  · intro h0
    rw [h, Lib.decDigits, dif_pos (by omega), show r % 10 = r by omega]
    rfl
  · intro h0
    rw [h]
    conv => lhs; rw [Lib.decDigits, dif_neg (by omega)]
    rw [List.append_assoc]
    rfl
end Go.Proofs.YtbfdklmljcdonaaDoor
