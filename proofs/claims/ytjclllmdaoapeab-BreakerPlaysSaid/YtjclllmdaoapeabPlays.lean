/- The law on any breaker, walked. -/
import Derived.Test.YtjclllmdaoapeabBreakerLaws
import Derived.Deep.Cut
import Derived.Deep.CutRange
import Derived.Deep.DeepCutAuto
namespace Go.Proofs.Ytjclllmdaoapeab
open Go.RowKit

/-- The three boxes of the law's last statement, and that nothing old has turned. -/
def Three (w wx : World) (s f t s2 s3 f3 t3 : Int) : Prop :=
  Below w.heap.size w wx ∧ Box wx w.heap.size #[.int .i64 s, .int .i64 f, .int .i64 t] 36 ∧
  Box wx (w.heap.size + 1) #[.int .i64 s2, .int .i64 f, .int .i64 t] 36 ∧ Box wx (w.heap.size + 2) #[.int .i64 s3, .int .i64 f3, .int .i64 t3] 36
theorem Three.later {w wx wy : World} {s f t s2 s3 f3 t3 : Int} (h : Three w wx s f t s2 s3 f3 t3) (hb : Below wx.heap.size wx wy) : Three w wy s f t s2 s3 f3 t3 :=
  ⟨h.1.trans (hb.mono h.1.size), h.2.1.later hb, h.2.2.1.later hb, h.2.2.2.later hb⟩

theorem held9 {w wx wy : World} {s f t s2 s3 f3 t3 : Int} (h : Below w.heap.size w wx ∧ wx.cell? ⟨w.heap.size, 0, none⟩ = some (.int .i64 s) ∧ wx.cell? ⟨w.heap.size, 1, none⟩ = some (.int .i64 f) ∧ wx.cell? ⟨w.heap.size, 2, none⟩ = some (.int .i64 t) ∧ wx.cell? ⟨w.heap.size + 1, 0, none⟩ = some (.int .i64 s2) ∧ wx.cell? ⟨w.heap.size + 1, 1, none⟩ = some (.int .i64 f) ∧ wx.cell? ⟨w.heap.size + 1, 2, none⟩ = some (.int .i64 t) ∧ wx.cell? ⟨w.heap.size + 2, 0, none⟩ = some (.int .i64 s3) ∧ wx.cell? ⟨w.heap.size + 2, 1, none⟩ = some (.int .i64 f3) ∧ wx.cell? ⟨w.heap.size + 2, 2, none⟩ = some (.int .i64 t3)) (hb : Below wx.heap.size wx wy) : Below w.heap.size w wy ∧ wy.cell? ⟨w.heap.size, 0, none⟩ = some (.int .i64 s) ∧ wy.cell? ⟨w.heap.size, 1, none⟩ = some (.int .i64 f) ∧ wy.cell? ⟨w.heap.size, 2, none⟩ = some (.int .i64 t) ∧ wy.cell? ⟨w.heap.size + 1, 0, none⟩ = some (.int .i64 s2) ∧ wy.cell? ⟨w.heap.size + 1, 1, none⟩ = some (.int .i64 f) ∧ wy.cell? ⟨w.heap.size + 1, 2, none⟩ = some (.int .i64 t) ∧ wy.cell? ⟨w.heap.size + 2, 0, none⟩ = some (.int .i64 s3) ∧ wy.cell? ⟨w.heap.size + 2, 1, none⟩ = some (.int .i64 f3) ∧ wy.cell? ⟨w.heap.size + 2, 2, none⟩ = some (.int .i64 t3) := by
  obtain ⟨h0, h1, h2, h3, h4, h5, h6, h7, h8, h9⟩ := h
  exact ⟨h0.trans (hb.mono h0.size), cell_later hb h1, cell_later hb h2, cell_later hb h3, cell_later hb h4, cell_later hb h5, cell_later hb h6, cell_later hb h7, cell_later hb h8, cell_later hb h9⟩
theorem opens_no {s f most : Int} (h : opens s f most = false) : ¬ (s = 2 ∨ max most 1 ≤ failF f) := of_decide_eq_false h
theorem opens_yes {s f most : Int} (h : opens s f most = true) : s = 2 ∨ max most 1 ≤ failF f := of_decide_eq_true h

end Go.Proofs.Ytjclllmdaoapeab
