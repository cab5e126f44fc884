/- Contracts whose values are told; the fixed fact. -/
import Derived.Test.YtonfbkffngplcaaPolS
import Derived.Test.YtonfbkffngplcaaPolT
import Derived.Test.YtonfbkffngplcaaPolE
import Derived.Test.YtonfbkffngplcaaPolL
import Derived.Test.YtonfbkffngplcaaPolNpans3
import Derived.Test.YtonfbkffngplcaaPolNpans4
import Derived.Test.YtonfbkffngplcaaPolNpans0
import Derived.Test.YtonfbkffngplcaaPolNrans3
import Derived.Test.YtonfbkffngplcaaPolNrans4
import Derived.Test.YtonfbkffngplcaaPolNrans0
import Derived.Test.YtonfbkffngplcaaPolOplearn
import Derived.Test.YtonfbkffngplcaaPolOrlearn
import Derived.Test.YtonfbkffngplcaaPolX
namespace Go.Proofs.Ytonfbkffngplcaa
open Go.RowKit

theorem new_as (a b G : Int) (h : max a 0 = G) (w : World) : Calls Try.prog 4 #[.int .i64 a, .int .i64 b] w fun e w' => e = .returned (.agg #[.int .i64 (-1), .int .i64 G, .int .i64 0, .int .i64 0, .int .i64 0, .int .i64 0, .int .i64 b, .int .i64 0, .int .i64 0, .int .i64 0, .bool false, .bool false, .slice .none 0 0, .int .i64 0]) ∧ Below w.heap.size w w' := h ▸ new_any a b w
theorem psend_as (c : Cfg) (p : Pol) (now S N : Int) (h1 : p.flying ≤ 9223372036854775806) (h0 : -9223372036854775808 ≤ p.flying) (hS : sendS p.state p.till now = S) (hN : p.flying + 1 = N) (w : World) : Calls Try.prog 9 #[.agg #[.int .i64 c.hosts, .int .i64 c.perHost, .int .i64 c.memory, .int .i64 c.segs, .int .i64 c.floor, .int .i64 c.cap, .int .i64 c.base, .int .i64 c.most, .int .i64 c.brk, .int .i64 c.opn, .int .i64 c.rate, .int .i64 c.burst, .int .i64 c.keep, .string c.agent], .agg #[.int .i64 p.last, .int .i64 p.gap, .int .i64 p.exp, .int .i64 p.fails, .int .i64 p.state, .int .i64 p.till, .int .i64 p.retry, .int .i64 p.reset, .int .i64 p.flying, .int .i64 p.known, .bool p.all, .bool p.none, .slice p.ra p.rl p.rc, .int .i64 p.delay], .int .i64 now] w fun e w' => e = .returned (.agg #[.int .i64 now, .int .i64 p.gap, .int .i64 p.exp, .int .i64 p.fails, .int .i64 S, .int .i64 p.till, .int .i64 p.retry, .int .i64 p.reset, .int .i64 N, .int .i64 p.known, .bool p.all, .bool p.none, .slice p.ra p.rl p.rc, .int .i64 p.delay]) ∧ Below w.heap.size w w' := by subst hS; subst hN; exact psend_any c p now h1 h0 w
theorem elig_as (c : Cfg) (p : Pol) (v : Int) (h : eligP c p (addI p.last p.gap) = v) (w : World) : Calls Try.prog 8 #[.agg #[.int .i64 c.hosts, .int .i64 c.perHost, .int .i64 c.memory, .int .i64 c.segs, .int .i64 c.floor, .int .i64 c.cap, .int .i64 c.base, .int .i64 c.most, .int .i64 c.brk, .int .i64 c.opn, .int .i64 c.rate, .int .i64 c.burst, .int .i64 c.keep, .string c.agent], .agg #[.int .i64 p.last, .int .i64 p.gap, .int .i64 p.exp, .int .i64 p.fails, .int .i64 p.state, .int .i64 p.till, .int .i64 p.retry, .int .i64 p.reset, .int .i64 p.flying, .int .i64 p.known, .bool p.all, .bool p.none, .slice p.ra p.rl p.rc, .int .i64 p.delay]] w fun e w' => e = .returned (.int .i64 v) ∧ Below w.heap.size w w' := h ▸ elig_any c p w
theorem knows_as (p : Pol) (now : Int) (v : Bool) (h : decide (now < p.known) = v) (w : World) : Calls Try.prog 19 #[.agg #[.int .i64 p.last, .int .i64 p.gap, .int .i64 p.exp, .int .i64 p.fails, .int .i64 p.state, .int .i64 p.till, .int .i64 p.retry, .int .i64 p.reset, .int .i64 p.flying, .int .i64 p.known, .bool p.all, .bool p.none, .slice p.ra p.rl p.rc, .int .i64 p.delay], .int .i64 now] w fun e w' => e = .returned (.bool v) ∧ Below w.heap.size w w' := h ▸ knows_any p now w
theorem pbad_as (c : Cfg) (p : Pol) (f : Fb) (now draw S F T E M J L N R Q G : Int) (hf : p.flying ≤ 9223372036854775807) (hN : max p.flying 1 - 1 = N) (hR : max p.retry f.retry = R) (hQ : max p.reset f.reset = Q) (hc : f.cls = 3 ∨ f.cls = 4) (hS : failS p.state p.fails c.brk = S) (hF : failF p.fails = F) (hT : failU p.state p.fails p.till now c.brk c.opn = T) (hE : upI p.exp = E) (hM : mostI c.base c.most E = M) (hJ : jitI M draw = J) (hL : least3 c.floor p.delay = L) (hG : max L J = G) (w : World) : Calls Try.prog 6 #[.agg #[.int .i64 c.hosts, .int .i64 c.perHost, .int .i64 c.memory, .int .i64 c.segs, .int .i64 c.floor, .int .i64 c.cap, .int .i64 c.base, .int .i64 c.most, .int .i64 c.brk, .int .i64 c.opn, .int .i64 c.rate, .int .i64 c.burst, .int .i64 c.keep, .string c.agent], .agg #[.int .i64 p.last, .int .i64 p.gap, .int .i64 p.exp, .int .i64 p.fails, .int .i64 p.state, .int .i64 p.till, .int .i64 p.retry, .int .i64 p.reset, .int .i64 p.flying, .int .i64 p.known, .bool p.all, .bool p.none, .slice p.ra p.rl p.rc, .int .i64 p.delay], .agg #[.int .i64 f.cls, .int .i64 f.retry, .int .i64 f.reset], .int .i64 now, .int .i64 draw] w fun e w' => e = .returned (.agg #[.int .i64 p.last, .int .i64 G, .int .i64 E, .int .i64 F, .int .i64 S, .int .i64 T, .int .i64 R, .int .i64 Q, .int .i64 N, .int .i64 p.known, .bool p.all, .bool p.none, .slice p.ra p.rl p.rc, .int .i64 p.delay]) ∧ Below w.heap.size w w' := by
  subst hG
  rcases hc with hc | hc
  · exact pans3 c p f now draw S F T E M J L N R Q hf hN hR hQ hc hS hF hT hE hM hJ hL w
  · exact pans4 c p f now draw S F T E M J L N R Q hf hN hR hQ hc hS hF hT hE hM hJ hL w
theorem plost_at (c : Cfg) (p : Pol) (now draw S F T E M J L N G : Int) (hf : p.flying ≤ 9223372036854775807) (hN : max p.flying 1 - 1 = N) (hS : failS p.state p.fails c.brk = S) (hF : failF p.fails = F) (hT : failU p.state p.fails p.till now c.brk c.opn = T) (hE : upI p.exp = E) (hM : mostI c.base c.most E = M) (hJ : jitI M draw = J) (hL : least3 c.floor p.delay = L) (hG : max L J = G) (w : World) : Calls Try.prog 5 #[.agg #[.int .i64 c.hosts, .int .i64 c.perHost, .int .i64 c.memory, .int .i64 c.segs, .int .i64 c.floor, .int .i64 c.cap, .int .i64 c.base, .int .i64 c.most, .int .i64 c.brk, .int .i64 c.opn, .int .i64 c.rate, .int .i64 c.burst, .int .i64 c.keep, .string c.agent], .agg #[.int .i64 p.last, .int .i64 p.gap, .int .i64 p.exp, .int .i64 p.fails, .int .i64 p.state, .int .i64 p.till, .int .i64 p.retry, .int .i64 p.reset, .int .i64 p.flying, .int .i64 p.known, .bool p.all, .bool p.none, .slice p.ra p.rl p.rc, .int .i64 p.delay], .int .i64 now, .int .i64 draw] w fun e w' => e = .returned (.agg #[.int .i64 p.last, .int .i64 G, .int .i64 E, .int .i64 F, .int .i64 S, .int .i64 T, .int .i64 p.retry, .int .i64 p.reset, .int .i64 N, .int .i64 p.known, .bool p.all, .bool p.none, .slice p.ra p.rl p.rc, .int .i64 p.delay]) ∧ Below w.heap.size w w' := by
  subst hG
  exact plost_as c p now draw S F T E M J L N hf hN hS hF hT hE hM hJ hL w
theorem plearn_at (c : Cfg) (p : Pol) (r : Rob) (now K L G : Int) (hK : addI now c.keep = K) (hL : least3 c.floor r.delay = L) (hG : max p.gap L = G) (w : World) : Calls Try.prog 7 #[.agg #[.int .i64 c.hosts, .int .i64 c.perHost, .int .i64 c.memory, .int .i64 c.segs, .int .i64 c.floor, .int .i64 c.cap, .int .i64 c.base, .int .i64 c.most, .int .i64 c.brk, .int .i64 c.opn, .int .i64 c.rate, .int .i64 c.burst, .int .i64 c.keep, .string c.agent], .agg #[.int .i64 p.last, .int .i64 p.gap, .int .i64 p.exp, .int .i64 p.fails, .int .i64 p.state, .int .i64 p.till, .int .i64 p.retry, .int .i64 p.reset, .int .i64 p.flying, .int .i64 p.known, .bool p.all, .bool p.none, .slice p.ra p.rl p.rc, .int .i64 p.delay], .agg #[.bool r.all, .bool r.none, .slice r.ra r.rl r.rc, .int .i64 r.delay], .int .i64 now] w fun e w' => e = .returned (.agg #[.int .i64 p.last, .int .i64 G, .int .i64 p.exp, .int .i64 p.fails, .int .i64 p.state, .int .i64 p.till, .int .i64 p.retry, .int .i64 p.reset, .int .i64 p.flying, .int .i64 K, .bool r.all, .bool r.none, .slice r.ra r.rl r.rc, .int .i64 r.delay]) ∧ Below w.heap.size w w' := by
  subst hG
  exact plearn_as c p r now K L hK hL w
theorem nil_rules (w : World) (L : Nat → Bool × ByteArray) : IsRules w none 0 0 L := Or.inl ⟨rfl, rfl, rfl⟩
set_option maxRecDepth 100000 in
set_option maxHeartbeats 40000000 in
theorem awake20 (w : World) : Calls Try.prog 10 #[] w fun e w' => e = .returned (.bool true) ∧ Below w.heap.size w w' := by
  go_enter Try.func10, Try.ntmps10
  go_wp2_with fail
  refine calls_forget (fun w' => Below w.heap.size w w' ∧ Box w' w.heap.size #[.int .i64 0, .int .i64 0, .int .i64 0, .int .i64 0, .int .i64 10, .int .i64 1, .int .i64 100, .int .i64 1000, .int .i64 2, .int .i64 50, .int .i64 0, .int .i64 0, .int .i64 99, .string ByteArray.empty] 24) ⟨(Below.refl _ _).alloc (Nat.le_refl _) _, Box.new _ _ _⟩ ?_
  rintro w0 ⟨B0, b0⟩
  have B := B0
  clear B0
  refine (new_as 10 0 10 (by decide) _).mono ?_
  rintro e w1 ⟨rfl, hb⟩
  skip
  have B1 := B.trans (hb.mono B.size)
  clear B
  have B := B1
  clear B1
  have d0 := b0.later hb
  clear b0
  have b0 := d0
  clear d0
  clear hb
  obtain ⟨l0, c0, f0⟩ := b0.facts
  go_wp2_with fail
  clear l0 c0 f0
  refine calls_forget (fun w' => Below w.heap.size w w' ∧ Box w' w.heap.size #[.int .i64 0, .int .i64 0, .int .i64 0, .int .i64 0, .int .i64 10, .int .i64 1, .int .i64 100, .int .i64 1000, .int .i64 2, .int .i64 50, .int .i64 0, .int .i64 0, .int .i64 99, .string ByteArray.empty] 24 ∧ Box w' w1.heap.size #[.int .i64 (-1), .int .i64 10, .int .i64 0, .int .i64 0, .int .i64 0, .int .i64 0, .int .i64 0, .int .i64 0, .int .i64 0, .int .i64 0, .bool false, .bool false, .slice none 0 0, .int .i64 0] 29) (by first | exact ⟨B.alloc B.size _, b0.alloc _, Box.new _ _ _⟩ | exact ⟨below14 (B.alloc B.size _) B.size _ _ _ _ _ _ _ _ _ _ _ _ _ _, (b0.alloc _).other14 (Nat.ne_of_lt b0.lt) _ _ _ _ _ _ _ _ _ _ _ _ _ _, (Box.new _ _ _).set14 _ _ _ _ _ _ _ _ _ _ _ _ _ _⟩) ?_
  rintro v1 ⟨B', e0, e1⟩
  clear B b0
  have B := B'
  have b0 := e0
  have b1 := e1
  clear B' e0 e1
  as_aux_lemma =>
    refine (psend_as ⟨0, 0, 0, 0, 10, 1, 100, 1000, 2, 50, 0, 0, 99, ByteArray.empty⟩ ⟨-1, 10, 0, 0, 0, 0, 0, 0, 0, 0, false, false, none, 0, 0, 0⟩ 5 0 1 (by decide) (by decide) (by decide) (by decide) _).mono ?_
    rintro e w2 ⟨rfl, hb⟩
    skip
    have B2 := B.trans (hb.mono B.size)
    clear B
    have B := B2
    clear B2
    have d0 := b0.later hb
    clear b0
    have b0 := d0
    clear d0
    have d1 := b1.later hb
    clear b1
    have b1 := d1
    clear d1
    clear hb
    obtain ⟨l0, c0, f0⟩ := b0.facts
    obtain ⟨l1, c1, f1⟩ := b1.facts
    go_wp2_with fail
    clear l0 c0 f0 l1 c1 f1
    refine calls_forget (fun w' => Below w.heap.size w w' ∧ Box w' w.heap.size #[.int .i64 0, .int .i64 0, .int .i64 0, .int .i64 0, .int .i64 10, .int .i64 1, .int .i64 100, .int .i64 1000, .int .i64 2, .int .i64 50, .int .i64 0, .int .i64 0, .int .i64 99, .string ByteArray.empty] 24 ∧ Box w' w1.heap.size #[.int .i64 (-1), .int .i64 10, .int .i64 0, .int .i64 0, .int .i64 0, .int .i64 0, .int .i64 0, .int .i64 0, .int .i64 0, .int .i64 0, .bool false, .bool false, .slice none 0 0, .int .i64 0] 29 ∧ Box w' w2.heap.size #[.int .i64 5, .int .i64 10, .int .i64 0, .int .i64 0, .int .i64 0, .int .i64 0, .int .i64 0, .int .i64 0, .int .i64 1, .int .i64 0, .bool false, .bool false, .slice none 0 0, .int .i64 0] 29) (by first | exact ⟨B.alloc B.size _, b0.alloc _, b1.alloc _, Box.new _ _ _⟩ | exact ⟨below14 (B.alloc B.size _) B.size _ _ _ _ _ _ _ _ _ _ _ _ _ _, (b0.alloc _).other14 (Nat.ne_of_lt b0.lt) _ _ _ _ _ _ _ _ _ _ _ _ _ _, (b1.alloc _).other14 (Nat.ne_of_lt b1.lt) _ _ _ _ _ _ _ _ _ _ _ _ _ _, (Box.new _ _ _).set14 _ _ _ _ _ _ _ _ _ _ _ _ _ _⟩) ?_
    rintro v2 ⟨B', e0, e1, e2⟩
    clear B b0 b1
    have B := B'
    have b0 := e0
    have b1 := e1
    have b2 := e2
    clear B' e0 e1 e2
    as_aux_lemma =>
      refine (pbad_as ⟨0, 0, 0, 0, 10, 1, 100, 1000, 2, 50, 0, 0, 99, ByteArray.empty⟩ ⟨5, 10, 0, 0, 0, 0, 0, 0, 1, 0, false, false, none, 0, 0, 0⟩ ⟨3, 77, 0⟩ 9 1000 0 1 0 1 100 100 10 0 77 0 100 (by decide) (by decide) (by decide) (by decide) (Or.inl rfl) (by decide) (by decide) (by decide) (by decide) (by decide) (by decide) (by decide) (by decide) _).mono ?_
      rintro e w3 ⟨rfl, hb⟩
      skip
      have B3 := B.trans (hb.mono B.size)
      clear B
      have B := B3
      clear B3
      have d0 := b0.later hb
      clear b0
      have b0 := d0
      clear d0
      have d1 := b1.later hb
      clear b1
      have b1 := d1
      clear d1
      have d2 := b2.later hb
      clear b2
      have b2 := d2
      clear d2
      clear hb
      obtain ⟨l0, c0, f0⟩ := b0.facts
      go_wp2_with fail
      clear l0 c0 f0
      refine calls_forget (fun w' => Below w.heap.size w w' ∧ Box w' w.heap.size #[.int .i64 0, .int .i64 0, .int .i64 0, .int .i64 0, .int .i64 10, .int .i64 1, .int .i64 100, .int .i64 1000, .int .i64 2, .int .i64 50, .int .i64 0, .int .i64 0, .int .i64 99, .string ByteArray.empty] 24 ∧ Box w' w1.heap.size #[.int .i64 (-1), .int .i64 10, .int .i64 0, .int .i64 0, .int .i64 0, .int .i64 0, .int .i64 0, .int .i64 0, .int .i64 0, .int .i64 0, .bool false, .bool false, .slice none 0 0, .int .i64 0] 29 ∧ Box w' w2.heap.size #[.int .i64 5, .int .i64 10, .int .i64 0, .int .i64 0, .int .i64 0, .int .i64 0, .int .i64 0, .int .i64 0, .int .i64 1, .int .i64 0, .bool false, .bool false, .slice none 0 0, .int .i64 0] 29 ∧ Box w' w3.heap.size #[.int .i64 5, .int .i64 100, .int .i64 1, .int .i64 1, .int .i64 0, .int .i64 0, .int .i64 77, .int .i64 0, .int .i64 0, .int .i64 0, .bool false, .bool false, .slice none 0 0, .int .i64 0] 29) (by first | exact ⟨B.alloc B.size _, b0.alloc _, b1.alloc _, b2.alloc _, Box.new _ _ _⟩ | exact ⟨below14 (B.alloc B.size _) B.size _ _ _ _ _ _ _ _ _ _ _ _ _ _, (b0.alloc _).other14 (Nat.ne_of_lt b0.lt) _ _ _ _ _ _ _ _ _ _ _ _ _ _, (b1.alloc _).other14 (Nat.ne_of_lt b1.lt) _ _ _ _ _ _ _ _ _ _ _ _ _ _, (b2.alloc _).other14 (Nat.ne_of_lt b2.lt) _ _ _ _ _ _ _ _ _ _ _ _ _ _, (Box.new _ _ _).set14 _ _ _ _ _ _ _ _ _ _ _ _ _ _⟩) ?_
      rintro v3 ⟨B', e0, e1, e2, e3⟩
      clear B b0 b1 b2
      have B := B'
      have b0 := e0
      have b1 := e1
      have b2 := e2
      have b3 := e3
      clear B' e0 e1 e2 e3
      as_aux_lemma =>
        refine (plearn_at ⟨0, 0, 0, 0, 10, 1, 100, 1000, 2, 50, 0, 0, 99, ByteArray.empty⟩ ⟨5, 100, 1, 1, 0, 0, 77, 0, 0, 0, false, false, none, 0, 0, 0⟩ ⟨false, false, none, 0, 0, 300⟩ 9 108 300 300 (by decide) (by decide) (by decide) _).mono ?_
        rintro e w4 ⟨rfl, hb⟩
        skip
        have B4 := B.trans (hb.mono B.size)
        clear B
        have B := B4
        clear B4
        have d0 := b0.later hb
        clear b0
        have b0 := d0
        clear d0
        have d1 := b1.later hb
        clear b1
        have b1 := d1
        clear d1
        have d2 := b2.later hb
        clear b2
        have b2 := d2
        clear d2
        have d3 := b3.later hb
        clear b3
        have b3 := d3
        clear d3
        clear hb
        obtain ⟨l0, c0, f0⟩ := b0.facts
        obtain ⟨l1, c1, f1⟩ := b1.facts
        go_wp2_with fail
        clear l0 c0 f0 l1 c1 f1
        refine calls_forget (fun w' => Below w.heap.size w w' ∧ Box w' w.heap.size #[.int .i64 0, .int .i64 0, .int .i64 0, .int .i64 0, .int .i64 10, .int .i64 1, .int .i64 100, .int .i64 1000, .int .i64 2, .int .i64 50, .int .i64 0, .int .i64 0, .int .i64 99, .string ByteArray.empty] 24 ∧ Box w' w1.heap.size #[.int .i64 (-1), .int .i64 10, .int .i64 0, .int .i64 0, .int .i64 0, .int .i64 0, .int .i64 0, .int .i64 0, .int .i64 0, .int .i64 0, .bool false, .bool false, .slice none 0 0, .int .i64 0] 29 ∧ Box w' w2.heap.size #[.int .i64 5, .int .i64 10, .int .i64 0, .int .i64 0, .int .i64 0, .int .i64 0, .int .i64 0, .int .i64 0, .int .i64 1, .int .i64 0, .bool false, .bool false, .slice none 0 0, .int .i64 0] 29 ∧ Box w' w3.heap.size #[.int .i64 5, .int .i64 100, .int .i64 1, .int .i64 1, .int .i64 0, .int .i64 0, .int .i64 77, .int .i64 0, .int .i64 0, .int .i64 0, .bool false, .bool false, .slice none 0 0, .int .i64 0] 29 ∧ Box w' w4.heap.size #[.int .i64 5, .int .i64 300, .int .i64 1, .int .i64 1, .int .i64 0, .int .i64 0, .int .i64 77, .int .i64 0, .int .i64 0, .int .i64 108, .bool false, .bool false, .slice none 0 0, .int .i64 300] 29) (by first | exact ⟨B.alloc B.size _, b0.alloc _, b1.alloc _, b2.alloc _, b3.alloc _, Box.new _ _ _⟩ | exact ⟨below14 (B.alloc B.size _) B.size _ _ _ _ _ _ _ _ _ _ _ _ _ _, (b0.alloc _).other14 (Nat.ne_of_lt b0.lt) _ _ _ _ _ _ _ _ _ _ _ _ _ _, (b1.alloc _).other14 (Nat.ne_of_lt b1.lt) _ _ _ _ _ _ _ _ _ _ _ _ _ _, (b2.alloc _).other14 (Nat.ne_of_lt b2.lt) _ _ _ _ _ _ _ _ _ _ _ _ _ _, (b3.alloc _).other14 (Nat.ne_of_lt b3.lt) _ _ _ _ _ _ _ _ _ _ _ _ _ _, (Box.new _ _ _).set14 _ _ _ _ _ _ _ _ _ _ _ _ _ _⟩) ?_
        rintro v4 ⟨B', e0, e1, e2, e3, e4⟩
        clear B b0 b1 b2 b3
        have B := B'
        have b0 := e0
        have b1 := e1
        have b2 := e2
        have b3 := e3
        have b4 := e4
        clear B' e0 e1 e2 e3 e4
        as_aux_lemma =>
          refine (elig_as ⟨0, 0, 0, 0, 10, 1, 100, 1000, 2, 50, 0, 0, 99, ByteArray.empty⟩ ⟨-1, 10, 0, 0, 0, 0, 0, 0, 0, 0, false, false, none, 0, 0, 0⟩ 0 (by decide) _).mono ?_
          rintro e w5 ⟨rfl, hb⟩
          skip
          have B5 := B.trans (hb.mono B.size)
          clear B
          have B := B5
          clear B5
          have d0 := b0.later hb
          clear b0
          have b0 := d0
          clear d0
          have d1 := b1.later hb
          clear b1
          have b1 := d1
          clear d1
          have d2 := b2.later hb
          clear b2
          have b2 := d2
          clear d2
          have d3 := b3.later hb
          clear b3
          have b3 := d3
          clear d3
          have d4 := b4.later hb
          clear b4
          have b4 := d4
          clear d4
          clear hb
          obtain ⟨l0, c0, f0⟩ := b0.facts
          obtain ⟨l2, c2, f2⟩ := b2.facts
          go_wp2_with fail
          clear l0 c0 f0 l2 c2 f2
          refine (elig_as ⟨0, 0, 0, 0, 10, 1, 100, 1000, 2, 50, 0, 0, 99, ByteArray.empty⟩ ⟨5, 10, 0, 0, 0, 0, 0, 0, 1, 0, false, false, none, 0, 0, 0⟩ 4611686018427387903 (by decide) _).mono ?_
          rintro e w6 ⟨rfl, hb⟩
          skip
          have B6 := B.trans (hb.mono B.size)
          clear B
          have B := B6
          clear B6
          have d0 := b0.later hb
          clear b0
          have b0 := d0
          clear d0
          have d1 := b1.later hb
          clear b1
          have b1 := d1
          clear d1
          have d2 := b2.later hb
          clear b2
          have b2 := d2
          clear d2
          have d3 := b3.later hb
          clear b3
          have b3 := d3
          clear d3
          have d4 := b4.later hb
          clear b4
          have b4 := d4
          clear d4
          clear hb
          obtain ⟨l0, c0, f0⟩ := b0.facts
          obtain ⟨l3, c3, f3⟩ := b3.facts
          go_wp2_with fail
          clear l0 c0 f0 l3 c3 f3
          as_aux_lemma =>
            refine (elig_as ⟨0, 0, 0, 0, 10, 1, 100, 1000, 2, 50, 0, 0, 99, ByteArray.empty⟩ ⟨5, 100, 1, 1, 0, 0, 77, 0, 0, 0, false, false, none, 0, 0, 0⟩ 105 (by decide) _).mono ?_
            rintro e w7 ⟨rfl, hb⟩
            skip
            have B7 := B.trans (hb.mono B.size)
            clear B
            have B := B7
            clear B7
            have d0 := b0.later hb
            clear b0
            have b0 := d0
            clear d0
            have d1 := b1.later hb
            clear b1
            have b1 := d1
            clear d1
            have d2 := b2.later hb
            clear b2
            have b2 := d2
            clear d2
            have d3 := b3.later hb
            clear b3
            have b3 := d3
            clear d3
            have d4 := b4.later hb
            clear b4
            have b4 := d4
            clear d4
            clear hb
            obtain ⟨l4, c4, f4⟩ := b4.facts
            go_wp2_with fail
            clear l4 c4 f4
            refine (knows_as ⟨5, 300, 1, 1, 0, 0, 77, 0, 0, 108, false, false, none, 0, 0, 300⟩ 107 true (by decide) _).mono ?_
            rintro e w8 ⟨rfl, hb⟩
            skip
            have B8 := B.trans (hb.mono B.size)
            clear B
            have B := B8
            clear B8
            have d0 := b0.later hb
            clear b0
            have b0 := d0
            clear d0
            have d1 := b1.later hb
            clear b1
            have b1 := d1
            clear d1
            have d2 := b2.later hb
            clear b2
            have b2 := d2
            clear d2
            have d3 := b3.later hb
            clear b3
            have b3 := d3
            clear d3
            have d4 := b4.later hb
            clear b4
            have b4 := d4
            clear d4
            clear hb
            obtain ⟨l4, c4, f4⟩ := b4.facts
            go_wp2_with fail
            clear l4 c4 f4
            as_aux_lemma =>
              refine (knows_as ⟨5, 300, 1, 1, 0, 0, 77, 0, 0, 108, false, false, none, 0, 0, 300⟩ 108 false (by decide) _).mono ?_
              rintro e w9 ⟨rfl, hb⟩
              skip
              have B9 := B.trans (hb.mono B.size)
              clear B
              have B := B9
              clear B9
              have d0 := b0.later hb
              clear b0
              have b0 := d0
              clear d0
              have d1 := b1.later hb
              clear b1
              have b1 := d1
              clear d1
              have d2 := b2.later hb
              clear b2
              have b2 := d2
              clear d2
              have d3 := b3.later hb
              clear b3
              have b3 := d3
              clear d3
              have d4 := b4.later hb
              clear b4
              have b4 := d4
              clear d4
              clear hb
              obtain ⟨l1, c1, f1⟩ := b1.facts
              go_wp2_with fail
              clear l1 c1 f1
              refine (same_self ⟨-1, 10, 0, 0, 0, 0, 0, 0, 0, 0, false, false, none, 0, 0, 0⟩ none (fun _ => (false, ByteArray.empty)) _ (nil_rules _ _) (Or.inl rfl) (by decide)).mono ?_
              rintro e w10 ⟨rfl, hb⟩
              skip
              have B10 := B.trans (hb.mono B.size)
              clear B
              have B := B10
              clear B10
              have d0 := b0.later hb
              clear b0
              have b0 := d0
              clear d0
              have d1 := b1.later hb
              clear b1
              have b1 := d1
              clear d1
              have d2 := b2.later hb
              clear b2
              have b2 := d2
              clear d2
              have d3 := b3.later hb
              clear b3
              have b3 := d3
              clear d3
              have d4 := b4.later hb
              clear b4
              have b4 := d4
              clear d4
              clear hb
              go_wp2_with fail
              go_ret
              exact ⟨rfl, B⟩
end Go.Proofs.Ytonfbkffngplcaa
