/- The law on any breaker, walked. -/
import Derived.Test.YtjclllmdaoapeabPlaysA
import Derived.Test.YtjclllmdaoapeabPlaysB
import Derived.Test.YtjclllmdaoapeabPlaysL
import Derived.Test.YtjclllmdaoapeabPlaysC
import Derived.Test.YtjclllmdaoapeabPlaysD
import Derived.Lib.SmallJoins
namespace Go.Proofs.Ytjclllmdaoapeab
open Go.RowKit

theorem plays_any (s f t now fl most opn : Int) (w : World) :
    Calls Try.prog 8 #[.agg #[.int .i64 s, .int .i64 f, .int .i64 t], .int .i64 now, .int .i64 fl, .int .i64 most, .int .i64 opn] w fun e w' => e = .returned (.bool true) ∧ Below w.heap.size w w' := by
  by_cases h0 : s = 0
  · subst h0; exact plays_A f t now fl most opn w
  · by_cases h1 : s = 1
    · subst h1
      by_cases hn : now < t
      · exact plays_B f t now fl most opn hn w
      · exact plays_L f t now fl most opn hn w
    · by_cases h2 : s = 2
      · subst h2; exact plays_C f t now fl most opn w
      · exact plays_D s f t now fl most opn h0 h1 h2 w

/-- A breaker that comes in is three numbers. -/
theorem open_breaker {H : Type} {enc : TypeId × Value → H} {W : World} {r : Reach} {b0 base : Nat} {spare : Nat → Bool} {held : Bool} {v : Value} {d : DataW H} {p : List MemPlace}
    (hv : Value.okWide Try.prog W r b0 36 v) (h : DataW.Trod enc Try.prog W base spare held 36 v d p) :
    ∃ a : Int × Int × Int, v = .agg #[.int .i64 a.1, .int .i64 a.2.1, .int .i64 a.2.2] ∧ True := by
  obtain ⟨c0, c1, c2, y0, y1, y2, n, rfl, rfl, rfl, h0, h1, h2⟩ := Joins.open_agg3 Try.underlying36 (by kernel_rfl) (by kernel_rfl) hv h
  obtain ⟨x0, e0, _, _⟩ := DataW.trod_int Try.underlying3 h0
  obtain ⟨x1, e1, _, _⟩ := DataW.trod_int Try.underlying3 h1
  obtain ⟨x2, e2, _, _⟩ := DataW.trod_int Try.underlying3 h2
  simp at e0 e1 e2
  subst e0; subst e1; subst e2
  exact ⟨(x0, x1, x2), rfl, trivial⟩

theorem breakerPlays_walk (a : Int × Int × Int) (now fl most opn : Int) (w : World) (_ : True) (_w1 : (Lit.int .i64 now).wf = true) (_w2 : (Lit.int .i64 fl).wf = true) (_w3 : (Lit.int .i64 most).wf = true) (_w4 : (Lit.int .i64 opn).wf = true) :
    Calls Try.prog 8 #[.agg #[.int .i64 a.1, .int .i64 a.2.1, .int .i64 a.2.2], .int .i64 now, .int .i64 fl, .int .i64 most, .int .i64 opn] w fun e w' => e = .returned (.bool true) ∧ Below w.heap.size w w' :=
  plays_any a.1 a.2.1 a.2.2 now fl most opn w

end Go.Proofs.Ytjclllmdaoapeab
