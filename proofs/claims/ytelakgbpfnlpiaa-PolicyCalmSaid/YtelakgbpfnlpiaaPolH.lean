/- The reference's failure. -/
import Derived.Test.YtelakgbpfnlpiaaPolGA
import Derived.Test.YtelakgbpfnlpiaaPolGB
import Derived.Test.YtelakgbpfnlpiaaPolGC
namespace Go.Proofs.Ytelakgbpfnlpiaa
open Go.RowKit

theorem rfail_as (c : Cfg) (p : Pol) (now draw S F T E M J L : Int) (hS : failS p.state p.fails c.brk = S) (hF : failF p.fails = F) (hT : failU p.state p.fails p.till now c.brk c.opn = T) (hE : upI p.exp = E) (hM : mostI c.base c.most E = M) (hJ : jitI M draw = J) (hL : least3 c.floor p.delay = L) (w : World) : Calls Try.prog 49 #[.agg #[.int .i64 c.hosts, .int .i64 c.perHost, .int .i64 c.memory, .int .i64 c.segs, .int .i64 c.floor, .int .i64 c.cap, .int .i64 c.base, .int .i64 c.most, .int .i64 c.brk, .int .i64 c.opn, .int .i64 c.rate, .int .i64 c.burst, .int .i64 c.keep, .string c.agent], .agg #[.int .i64 p.last, .int .i64 p.gap, .int .i64 p.exp, .int .i64 p.fails, .int .i64 p.state, .int .i64 p.till, .int .i64 p.retry, .int .i64 p.reset, .int .i64 p.flying, .int .i64 p.known, .bool p.all, .bool p.none, .slice p.ra p.rl p.rc, .int .i64 p.delay], .int .i64 now, .int .i64 draw] w fun e w' => e = .returned (.agg #[.int .i64 p.last, .int .i64 (max L J), .int .i64 E, .int .i64 F, .int .i64 S, .int .i64 T, .int .i64 p.retry, .int .i64 p.reset, .int .i64 p.flying, .int .i64 p.known, .bool p.all, .bool p.none, .slice p.ra p.rl p.rc, .int .i64 p.delay]) ∧ Below w.heap.size w w' := by
  obtain ⟨F0, hC⟩ : ∃ F0, cutI p.fails 0 1099511627776 = F0 := ⟨_, rfl⟩
  have h0 : 0 ≤ F0 := by rw [← hC]; unfold cutI; split <;> (try split) <;> omega
  have h1 : F0 ≤ 1099511627776 := by rw [← hC]; unfold cutI; split <;> (try split) <;> omega
  obtain rfl : F = F0 + 1 := by rw [← hF, ← hC, cutI_eq _ _ (by omega)]; rfl
  subst hS
  subst hT
  unfold failS failU failT
  rw [hF]
  by_cases dm : c.brk < 1
  · rw [show max c.brk 1 = 1 by omega]
    by_cases hs : p.state = 2
    · rw [if_pos (.inl hs), if_pos (.inl hs)]
      by_cases ht : p.till < addI now c.opn
      · rw [show max p.till (addI now c.opn) = addI now c.opn by omega]; exact rfail_one_hu c p now draw F0 (addI now c.opn) E M J L hC rfl hE hM hJ hL h0 h1 dm hs ht w
      · rw [show max p.till (addI now c.opn) = p.till by omega]; exact rfail_one_hn c p now draw F0 (addI now c.opn) E M J L hC rfl hE hM hJ hL h0 h1 dm hs ht w
    · rw [if_pos (.inr (by omega)), if_pos (.inr (by omega))]
      by_cases ht : p.till < addI now c.opn
      · rw [show max p.till (addI now c.opn) = addI now c.opn by omega]; exact rfail_one_fu c p now draw F0 (addI now c.opn) E M J L hC rfl hE hM hJ hL h0 h1 dm hs (by omega) ht w
      · rw [show max p.till (addI now c.opn) = p.till by omega]; exact rfail_one_fn c p now draw F0 (addI now c.opn) E M J L hC rfl hE hM hJ hL h0 h1 dm hs (by omega) ht w
  · rw [show max c.brk 1 = c.brk by omega]
    by_cases hs : p.state = 2
    · rw [if_pos (.inl hs), if_pos (.inl hs)]
      by_cases ht : p.till < addI now c.opn
      · rw [show max p.till (addI now c.opn) = addI now c.opn by omega]; exact rfail_m_hu c p now draw F0 (addI now c.opn) E M J L hC rfl hE hM hJ hL h0 h1 dm hs ht w
      · rw [show max p.till (addI now c.opn) = p.till by omega]; exact rfail_m_hn c p now draw F0 (addI now c.opn) E M J L hC rfl hE hM hJ hL h0 h1 dm hs ht w
    · by_cases hm : c.brk ≤ F0 + 1
      · rw [if_pos (.inr hm), if_pos (.inr hm)]
        by_cases ht : p.till < addI now c.opn
        · rw [show max p.till (addI now c.opn) = addI now c.opn by omega]; exact rfail_m_fu c p now draw F0 (addI now c.opn) E M J L hC rfl hE hM hJ hL h0 h1 dm hs hm ht w
        · rw [show max p.till (addI now c.opn) = p.till by omega]; exact rfail_m_fn c p now draw F0 (addI now c.opn) E M J L hC rfl hE hM hJ hL h0 h1 dm hs hm ht w
      · rw [if_neg (fun h => h.elim hs hm), if_neg (fun h => h.elim hs hm)]
        exact rfail_m_s c p now draw F0 (addI now c.opn) E M J L hC rfl hE hM hJ hL h0 h1 dm hs hm w
end Go.Proofs.Ytelakgbpfnlpiaa
