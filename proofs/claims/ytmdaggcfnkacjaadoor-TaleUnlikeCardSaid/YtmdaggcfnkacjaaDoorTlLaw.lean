/- The law's line of a step. Written by gen_law.py. -/
import Derived.Test.YtmdaggcfnkacjaaDoorTlLwA
import Derived.Test.YtmdaggcfnkacjaaDoorTlLwB
namespace Go.Proofs.YtmdaggcfnkacjaaDoor
open Go Go.RowKit
set_option linter.unusedVariables false
set_option linter.unusedSimpArgs false
set_option maxRecDepth 10000

theorem fms_kinds : ∀ f ∈ fms, 1 ≤ f.kind ∧ f.kind ≤ 8 := by decide
set_option maxHeartbeats 4000000 in
theorem lline_out (x : Stp) (hk : x.k < 1 ∨ 8 < x.k) (ha : Option Addr) (n hc : Nat) (w : World) :
    Calls Tryd.prog 11 #[.agg (stA x.k x.a x.b x.c x.t ha n hc)] w (LwP x w) := by
  have HF : Hid (lineS (spOf x) = none) := Lib.hid (by
    cases h : lineS (spOf x) with
    | none => rfl
    | some l =>
      obtain ⟨f, hf, h1, _⟩ := line_some h
      have := fms_kinds f hf
      unfold spOf at h1
      dsimp only at h1
      omega)
  obtain ⟨xk, xa, xb, xc, xt, xh⟩ := x
  dsimp only at hk ⊢
  unfold stA LwP
  go_enter Tryd.func11, Tryd.ntmps11
  go_upto_region 1 with fail
  refine code_forget (fun W => Hid (Box W w.heap.size #[.int .i64 xk, .int .i64 xa, .int .i64 xb, .int .i64 xc, .string xt, .slice ha n hc] 24) ∧ Hid (Below w.heap.size w W)) ⟨Lib.hid (Box.new w _ _), Lib.hid ((Below.refl w.heap.size w).alloc (Nat.le_refl _) _)⟩ ?_
  rintro w1 ⟨BX, B1⟩
  obtain ⟨bx, hbx⟩ : ∃ b, w.heap.size = b := ⟨_, rfl⟩
  rw [hbx] at BX ⊢
  clear hbx
  have s0 := BX.out.cell 0
  have ls := BX.out.lt
  have BE := Lib.hid (B1.out.alloc B1.out.size (.cells #[.string ⟨#[]⟩, .string ⟨#[97, 100, 100]⟩, .string ⟨#[99, 108, 111, 99, 107]⟩, .string ⟨#[112, 111, 108, 108]⟩, .string ⟨#[97, 110, 115, 119, 101, 114]⟩, .string ⟨#[108, 111, 115, 116]⟩, .string ⟨#[99, 97, 110, 99, 101, 108]⟩, .string ⟨#[99, 114, 97, 115, 104]⟩, .string ⟨#[102, 97, 117, 108, 116]⟩] 9))
  have BE2 := Lib.hid (BE.out.alloc BE.out.size (.cells #[.int .i64 0, .int .i64 2, .int .i64 1, .int .i64 0, .int .i64 3, .int .i64 3, .int .i64 1, .int .i64 1, .int .i64 2] 3))
  by_cases h1 : xk < 1
  · have d1 : decide (xk < 1) = true := decide_eq_true h1
    go_wp2
    go_ret2
    exact ⟨BE2.out, Or.inl ⟨HF.out, rfl⟩⟩
  · have d1 : decide (xk < 1) = false := decide_eq_false h1
    have h8 : 8 < xk := by omega
    have d2 : decide (8 < xk) = true := decide_eq_true h8
    have d3 : decide (xk > 8) = true := decide_eq_true h8
    go_wp2
    go_ret2
    exact ⟨BE2.out, Or.inl ⟨HF.out, rfl⟩⟩
theorem lline_at (x : Stp) (hz : SzS x) (hrg : RgS x) (ha : Option Addr) (n hc : Nat) (hn : x.hs.length = n) (w : World) (hr : RdC w ha (hdV x.hs)) :
    Calls Tryd.prog 11 #[.agg (stA x.k x.a x.b x.c x.t ha n hc)] w (LwP x w) := by
  by_cases h : x.k < 1 ∨ 8 < x.k
  · exact lline_out x h ha n hc w
  · have : x.k = 1 ∨ x.k = 2 ∨ x.k = 3 ∨ x.k = 4 ∨ x.k = 5 ∨ x.k = 6 ∨ x.k = 7 ∨ x.k = 8 := by omega
    rcases this with h | h | h | h | h | h | h | h
    · exact lline_1 x h hz hrg ha n hc hn w hr
    · exact lline_2 x h hz hrg ha n hc hn w hr
    · exact lline_3 x h hz hrg ha n hc hn w hr
    · exact lline_4 x h hz hrg ha n hc hn w hr
    · exact lline_5 x h hz hrg ha n hc hn w hr
    · exact lline_6 x h hz hrg ha n hc hn w hr
    · exact lline_7 x h hz hrg ha n hc hn w hr
    · exact lline_8 x h hz hrg ha n hc hn w hr
end Go.Proofs.YtmdaggcfnkacjaaDoor
