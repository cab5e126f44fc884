/- Helpers. -/
import Derived.Test.YtonfbkffngplcaaPolR
import Derived.Test.YtonfbkffngplcaaPolE
import Derived.Test.YtonfbkffngplcaaPolQ
import Derived.Test.YtonfbkffngplcaaBackC
import Derived.Test.YtonfbkffngplcaaForget
import Derived.Deep.Cut
import Derived.Deep.CutRange
import Derived.Deep.DeepCutAuto
import Derived.Deep.DrawnRows
namespace Go.Proofs.Ytonfbkffngplcaa
open Go.RowKit

theorem bfail (s f t now most opn a b c : Int) (ha : failS s f most = a) (hb : failF f = b) (hc : failU s f t now most opn = c) (w : World) :
    Calls Try.prog 21 #[.agg #[.int .i64 s, .int .i64 f, .int .i64 t], .int .i64 now, .int .i64 most, .int .i64 opn] w fun e w' => e = .returned (.agg #[.int .i64 a, .int .i64 b, .int .i64 c]) ∧ Below w.heap.size w w' := fail_as s f t now most opn a b c ha hb hc w
theorem min_as (c : Cfg) (p : Pol) (L : Int) (h : least3 c.floor p.delay = L) (w : World) : Calls Try.prog 16 #[.agg #[.int .i64 c.hosts, .int .i64 c.perHost, .int .i64 c.memory, .int .i64 c.segs, .int .i64 c.floor, .int .i64 c.cap, .int .i64 c.base, .int .i64 c.most, .int .i64 c.brk, .int .i64 c.opn, .int .i64 c.rate, .int .i64 c.burst, .int .i64 c.keep, .string c.agent], .agg #[.int .i64 p.last, .int .i64 p.gap, .int .i64 p.exp, .int .i64 p.fails, .int .i64 p.state, .int .i64 p.till, .int .i64 p.retry, .int .i64 p.reset, .int .i64 p.flying, .int .i64 p.known, .bool p.all, .bool p.none, .slice p.ra p.rl p.rc, .int .i64 p.delay]] w fun e w' => e = .returned (.int .i64 L) ∧ Below w.heap.size w w' := h ▸ minGap_any c p w
theorem landed_as (p : Pol) (N : Int) (hf : p.flying ≤ 9223372036854775807) (hN : max p.flying 1 - 1 = N) (w : World) : Calls Try.prog 12 #[.agg #[.int .i64 p.last, .int .i64 p.gap, .int .i64 p.exp, .int .i64 p.fails, .int .i64 p.state, .int .i64 p.till, .int .i64 p.retry, .int .i64 p.reset, .int .i64 p.flying, .int .i64 p.known, .bool p.all, .bool p.none, .slice p.ra p.rl p.rc, .int .i64 p.delay]] w fun e w' => e = .returned (.agg #[.int .i64 p.last, .int .i64 p.gap, .int .i64 p.exp, .int .i64 p.fails, .int .i64 p.state, .int .i64 p.till, .int .i64 p.retry, .int .i64 p.reset, .int .i64 N, .int .i64 p.known, .bool p.all, .bool p.none, .slice p.ra p.rl p.rc, .int .i64 p.delay]) ∧ Below w.heap.size w w' := by subst hN; exact landed_any p hf w
structure Fb where
  cls : Int
  retry : Int
  reset : Int
structure Rob where
  all : Bool
  none : Bool
  ra : Option Addr
  rl : Nat
  rc : Nat
  delay : Int
theorem bgood (s f t : Int) (w : World) :
    Calls Try.prog 14 #[.agg #[.int .i64 s, .int .i64 f, .int .i64 t]] w fun e w' => e = .returned (.agg #[.int .i64 0, .int .i64 0, .int .i64 0]) ∧ Below w.heap.size w w' := good_any s f t w
end Go.Proofs.Ytonfbkffngplcaa
