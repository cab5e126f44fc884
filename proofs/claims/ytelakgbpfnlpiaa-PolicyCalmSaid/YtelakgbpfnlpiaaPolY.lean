/- From when on something may be sent, by the reference. -/
import Derived.Test.YtelakgbpfnlpiaaPolE
import Derived.Test.YtelakgbpfnlpiaaPolB
import Derived.Deep.Cut
import Derived.Deep.CutRange
import Derived.Deep.DeepCutAuto
import Derived.Deep.DrawnRows
import Derived.Maps.AppendAt
import Derived.Maps.OwnSet
namespace Go.Proofs.Ytelakgbpfnlpiaa
open Go.RowKit

open Go.Maps
theorem infoI : (Try.prog.info? 3).map (fun i => (i.zero, i.size, i.bytes)) = some (some (.int .i64 0), 1, 8) := by kernel_rfl
theorem Box.kept {w w' : World} {b : Nat} {cs : Array Value} {t : TypeId} {row : Option Nat} (h : Box w b cs t) (hg : w.grownBy w' row) (hne : some b ≠ row) : Box w' b cs t := (hg.block b h.lt hne).trans h
theorem own_slice {w : World} {base : Nat} {e : TypeId} {size : Nat} {v : Value} {n : Nat} {xs : List Value} (h : w.ownsRow base e size v n xs) : ∃ a cap, v = .slice a n cap := by
  rcases h.2 with ⟨rfl, rfl⟩ | ⟨g, cap, _, rfl, _⟩
  · exact ⟨_, _, rfl⟩
  · exact ⟨_, _, rfl⟩
theorem row_at {w : World} {base : Nat} {e : TypeId} {al : Option Addr} {capl : Nat} {xs : List Int} (h : w.ownsRow base e 1 (.slice al xs.length capl) xs.length (xs.map (Value.int .i64))) {k : Nat} {x : Int} (hx : xs[k]? = some x) : ∃ g, al = some ⟨g, 0, none⟩ ∧ w.cell? ⟨g, k, none⟩ = some (.int .i64 x) := by
  have hk := (List.getElem?_eq_some_iff.1 hx).1
  rcases h.2 with ⟨_, h0⟩ | ⟨g, cap', cur, hv, _, _, _⟩
  · omega
  · injection hv with ha
    refine ⟨g, ha, ?_⟩
    have := h.cells (g := g) (by rw [ha]; rfl) k (.int .i64 x) (by simp [hx])
    by_cases h0 : k = 0
    · subst h0
      simpa [Addr.add] using this
    · simpa [Addr.add, h0] using this
theorem take_max {xs : List Int} {k : Nat} {x : Int} (h : xs[k]? = some x) : (xs.take (k + 1)).foldl max 0 = max ((xs.take k).foldl max 0) x := by
  rw [List.take_add_one, h, List.foldl_append]; rfl
set_option maxRecDepth 100000 in
set_option maxHeartbeats 40000000 in
theorem relig_top (c : Cfg) (p : Pol) (h : c.cap ≤ p.flying ∨ (p.state ≠ 0 ∧ 0 < p.flying)) (w : World) : Calls Try.prog 16 #[.agg #[.int .i64 c.hosts, .int .i64 c.perHost, .int .i64 c.memory, .int .i64 c.segs, .int .i64 c.floor, .int .i64 c.cap, .int .i64 c.base, .int .i64 c.most, .int .i64 c.brk, .int .i64 c.opn, .int .i64 c.rate, .int .i64 c.burst, .int .i64 c.keep, .string c.agent], .agg #[.int .i64 p.last, .int .i64 p.gap, .int .i64 p.exp, .int .i64 p.fails, .int .i64 p.state, .int .i64 p.till, .int .i64 p.retry, .int .i64 p.reset, .int .i64 p.flying, .int .i64 p.known, .bool p.all, .bool p.none, .slice p.ra p.rl p.rc, .int .i64 p.delay]] w fun e w' => e = .returned (.int .i64 4611686018427387903) ∧ Below w.heap.size w w' := by
  by_cases h1 : c.cap ≤ p.flying
  · have d1 : decide (c.cap ≤ p.flying) = true := decide_eq_true h1
    clear h
    go_enter Try.func16, Try.ntmps16
    go_wp2
    go_ret
    exact ⟨rfl, ((Below.refl _ _).alloc (Nat.le_refl _) _).alloc (by simp) _⟩
  · have d1 : decide (c.cap ≤ p.flying) = false := decide_eq_false h1
    obtain ⟨h2, h3⟩ : p.state ≠ 0 ∧ 0 < p.flying := by rcases h with h | h; · exact absurd h h1
                                                       · exact h
    have d2 : (p.state != 0) = true := by simp [h2]
    have d3 : decide (0 < p.flying) = true := decide_eq_true h3
    clear h2
    go_enter Try.func16, Try.ntmps16
    go_wp2
    go_ret
    exact ⟨rfl, ((Below.refl _ _).alloc (Nat.le_refl _) _).alloc (by simp) _⟩
set_option maxRecDepth 100000 in
set_option maxHeartbeats 40000000 in
theorem relig_in (c : Cfg) (p : Pol) (X M1 M : Int) (hX : addI p.last p.gap = X) (hM1 : (if 0 ≤ p.last then max (max (max 0 p.retry) p.reset) X else max (max 0 p.retry) p.reset) = M1) (hM : (if p.state = 1 then max M1 p.till else M1) = M) (h1 : ¬ c.cap ≤ p.flying) (b2 b3 : Bool) (d2 : (p.state != 0) = b2) (d3 : decide (0 < p.flying) = b3) (hb : (b2 && b3) = false) (w : World) : Calls Try.prog 16 #[.agg #[.int .i64 c.hosts, .int .i64 c.perHost, .int .i64 c.memory, .int .i64 c.segs, .int .i64 c.floor, .int .i64 c.cap, .int .i64 c.base, .int .i64 c.most, .int .i64 c.brk, .int .i64 c.opn, .int .i64 c.rate, .int .i64 c.burst, .int .i64 c.keep, .string c.agent], .agg #[.int .i64 p.last, .int .i64 p.gap, .int .i64 p.exp, .int .i64 p.fails, .int .i64 p.state, .int .i64 p.till, .int .i64 p.retry, .int .i64 p.reset, .int .i64 p.flying, .int .i64 p.known, .bool p.all, .bool p.none, .slice p.ra p.rl p.rc, .int .i64 p.delay]] w fun e w' => e = .returned (.int .i64 M) ∧ Below w.heap.size w w' := by
  obtain ⟨i0, hi, hz0, hz1, hz2⟩ := info_parts infoI
  have HX := Lib.hid hX
  have HM1 := Lib.hid hM1
  have HM2 := Lib.hid hM
  clear hX hM1 hM
  have d1 : decide (c.cap ≤ p.flying) = false := decide_eq_false h1
  have x0 := Box.new (w.alloc (.cells #[.int .i64 c.hosts, .int .i64 c.perHost, .int .i64 c.memory, .int .i64 c.segs, .int .i64 c.floor, .int .i64 c.cap, .int .i64 c.base, .int .i64 c.most, .int .i64 c.brk, .int .i64 c.opn, .int .i64 c.rate, .int .i64 c.burst, .int .i64 c.keep, .string c.agent] 23)) #[.int .i64 p.last, .int .i64 p.gap, .int .i64 p.exp, .int .i64 p.fails, .int .i64 p.state, .int .i64 p.till, .int .i64 p.retry, .int .i64 p.reset, .int .i64 p.flying, .int .i64 p.known, .bool p.all, .bool p.none, .slice p.ra p.rl p.rc, .int .i64 p.delay] 28
  rw [World.size_alloc] at x0
  have B0 := ((Below.refl w.heap.size w).alloc (Nat.le_refl _) (.cells #[.int .i64 c.hosts, .int .i64 c.perHost, .int .i64 c.memory, .int .i64 c.segs, .int .i64 c.floor, .int .i64 c.cap, .int .i64 c.base, .int .i64 c.most, .int .i64 c.brk, .int .i64 c.opn, .int .i64 c.rate, .int .i64 c.burst, .int .i64 c.keep, .string c.agent] 23)).alloc (by simp) (.cells #[.int .i64 p.last, .int .i64 p.gap, .int .i64 p.exp, .int .i64 p.fails, .int .i64 p.state, .int .i64 p.till, .int .i64 p.retry, .int .i64 p.reset, .int .i64 p.flying, .int .i64 p.known, .bool p.all, .bool p.none, .slice p.ra p.rl p.rc, .int .i64 p.delay] 28)
  go_enter Try.func16, Try.ntmps16
  go_upto_region 1 with fail
  have z0 := (Box.new w #[.int .i64 c.hosts, .int .i64 c.perHost, .int .i64 c.memory, .int .i64 c.segs, .int .i64 c.floor, .int .i64 c.cap, .int .i64 c.base, .int .i64 c.most, .int .i64 c.brk, .int .i64 c.opn, .int .i64 c.rate, .int .i64 c.burst, .int .i64 c.keep, .string c.agent] 23).alloc (.cells #[.int .i64 p.last, .int .i64 p.gap, .int .i64 p.exp, .int .i64 p.fails, .int .i64 p.state, .int .i64 p.till, .int .i64 p.retry, .int .i64 p.reset, .int .i64 p.flying, .int .i64 p.known, .bool p.all, .bool p.none, .slice p.ra p.rl p.rc, .int .i64 p.delay] 28)
  generalize ((w.alloc (.cells #[.int .i64 c.hosts, .int .i64 c.perHost, .int .i64 c.memory, .int .i64 c.segs, .int .i64 c.floor, .int .i64 c.cap, .int .i64 c.base, .int .i64 c.most, .int .i64 c.brk, .int .i64 c.opn, .int .i64 c.rate, .int .i64 c.burst, .int .i64 c.keep, .string c.agent] 23)).alloc (.cells #[.int .i64 p.last, .int .i64 p.gap, .int .i64 p.exp, .int .i64 p.fails, .int .i64 p.state, .int .i64 p.till, .int .i64 p.retry, .int .i64 p.reset, .int .i64 p.flying, .int .i64 p.known, .bool p.all, .bool p.none, .slice p.ra p.rl p.rc, .int .i64 p.delay] 28)) = wz at *
  obtain ⟨l0, c0, f0⟩ := x0.facts
  obtain ⟨l1, c1, f1⟩ := z0.facts
  obtain ⟨h3, h4⟩ : (b2 = false ∨ b2 = true) ∧ (b2 = true → b3 = false) := by cases b2 <;> cases b3 <;> simp_all
  rcases h3 with rfl | rfl
  · clear h4 hb
    go_upto_if 30 with fail
    refine code_forget (fun w' => Below w.heap.size w w' ∧ Box w' (w.heap.size + 1) #[.int .i64 p.last, .int .i64 p.gap, .int .i64 p.exp, .int .i64 p.fails, .int .i64 p.state, .int .i64 p.till, .int .i64 p.retry, .int .i64 p.reset, .int .i64 p.flying, .int .i64 p.known, .bool p.all, .bool p.none, .slice p.ra p.rl p.rc, .int .i64 p.delay] 28 ∧ w'.ownsRow w.heap.size 3 1 (.slice (some ⟨wz.heap.size, 0, none⟩) 2 2) 2 [.int .i64 p.retry, .int .i64 p.reset] ∧ wz.heap.size ≠ w.heap.size + 1) ⟨B0.alloc B0.size _, x0.alloc _, ⟨rfl, Or.inr ⟨wz.heap.size, 2, _, rfl, B0.size, heap_alloc_new _ _, Nat.le_refl _, (by decide), rfl, rfl⟩⟩, (by omega)⟩ ?_
    rintro wy ⟨B1, hbox, hrow0, hn0⟩
    clear l0 c0 f0 l1 c1 f1 x0 z0 B0
    go_cut [6] (fun s6 wx => ∃ (al : Option Addr) (capl : Nat) (xs : List Int), s6 = .slice al xs.length capl ∧ xs.length ≤ 3 ∧ Hid (xs.foldl max 0 = M1) ∧ wx.ownsRow w.heap.size 3 1 (.slice al xs.length capl) xs.length (xs.map (Value.int .i64)) ∧ (∀ x, al = some x → x.block ≠ w.heap.size + 1) ∧ Below w.heap.size w wx ∧ Box wx (w.heap.size + 1) #[.int .i64 p.last, .int .i64 p.gap, .int .i64 p.exp, .int .i64 p.fails, .int .i64 p.state, .int .i64 p.till, .int .i64 p.retry, .int .i64 p.reset, .int .i64 p.flying, .int .i64 p.known, .bool p.all, .bool p.none, .slice p.ra p.rl p.rc, .int .i64 p.delay] 28)
    case first =>
      obtain ⟨l0, c0, f0⟩ := hbox.facts
      by_cases hc : 0 ≤ p.last
      · have d4 : decide (0 ≤ p.last) = true := decide_eq_true hc
        have E1 : M1 = max (max (max 0 p.retry) p.reset) X := by rw [← HM1.out, if_pos hc]
        have E1 := Lib.hid E1
        go_wp2_with (first | (go_at_call 32; refine (radd_as _ _ X HX.out _).mono ?_; rintro e w' ⟨rfl, rfl⟩) | (at_builtin; refine wpList_append_own_at _ rfl _ _ 68 rfl w.heap.size 3 i0 (.int .i64 0) 1 8 Try.underlying68 hi hz0 hz1 hz2 rfl (by decide) (.slice (some ⟨wz.heap.size, 0, none⟩) 2 2) 2 _ rfl (hrow0.alloc _) ⟨wy.heap.size, 0, none⟩ 1 1 [.int .i64 X] rfl rfl (cell_one_new _ _ _) (fun x hx => (by simp at hx; subst hx; rfl)) (by decide) (by decide) (by simp; have := B1.size; omega) ?_; intro v' w1 hown' hgrow hnil hloc; obtain ⟨a', cap', rfl⟩ := own_slice hown'; have x1 := (hbox.alloc (.cells #[.int .i64 X] 3)).kept hgrow (by simp [Value.ownBlock]; omega); have B2 := ((B1.alloc B1.size (.cells #[.int .i64 X] 3)).grown hgrow (by simp; have := B1.size; omega) (fun k hk => ((hrow0.alloc (.cells #[.int .i64 X] 3)).lt k hk).1))))
        go_meet
        exact ⟨a', cap', [p.retry, p.reset, X], rfl, (by simp), Lib.hid (by rw [E1.out]; rfl), hown', (fun y hy => (by
          subst hy
          rcases hloc with e | e
          · (simp [Value.ownBlock] at e; rw [e]; exact hn0)
          · (simp [Value.ownBlock] at e; have := hbox.lt; omega))), B2, x1⟩
      · have d4 : decide (0 ≤ p.last) = false := decide_eq_false hc
        have E1 : M1 = max (max 0 p.retry) p.reset := by rw [← HM1.out, if_neg hc]
        have E1 := Lib.hid E1
        go_wp2_with fail
        go_meet
        exact ⟨_, 2, [p.retry, p.reset], rfl, (by simp), Lib.hid (by rw [E1.out]; rfl), hrow0, (fun y hy => (by cases hy; exact hn0)), B1, hbox⟩
    case rest =>
      obtain ⟨al, capl, xs, rfl, hlen, HM, hrow, hne, B3, hbox'⟩ := hcut
      clear hbox hrow0 hn0 B1
      have hbox := hbox'
      clear hbox'
      obtain ⟨l0, c0, f0⟩ := hbox.facts
      go_upto_if 41 with fail
      go_cut [6] (fun s6 wx => ∃ (al : Option Addr) (capl : Nat) (xs : List Int), s6 = .slice al xs.length capl ∧ xs.length ≤ 4 ∧ Hid (xs.foldl max 0 = M) ∧ wx.ownsRow w.heap.size 3 1 (.slice al xs.length capl) xs.length (xs.map (Value.int .i64)) ∧ (∀ x, al = some x → x.block ≠ w.heap.size + 1) ∧ Below w.heap.size w wx ∧ Box wx (w.heap.size + 1) #[.int .i64 p.last, .int .i64 p.gap, .int .i64 p.exp, .int .i64 p.fails, .int .i64 p.state, .int .i64 p.till, .int .i64 p.retry, .int .i64 p.reset, .int .i64 p.flying, .int .i64 p.known, .bool p.all, .bool p.none, .slice p.ra p.rl p.rc, .int .i64 p.delay] 28)
      case first =>
        by_cases hc : p.state = 1
        · have h00 : p.state = 0 := by simpa using d2
          omega
        · have d4 : (p.state == 1) = false := by simp [hc]
          have E1 := Lib.hid (show M = M1 by rw [← HM2.out, if_neg hc])
          clear hc
          go_wp2_with fail
          go_meet
          exact ⟨al, capl, xs, rfl, (by omega), Lib.hid (by rw [E1.out]; exact HM.out), hrow, hne, B3, hbox⟩
      case rest =>
        clear hbox hrow hne B3 hlen HM l0 c0 f0 al capl xs
        obtain ⟨al, capl, xs, rfl, hlen, HM, hrow, hne, B3, hbox⟩ := hcut
        have HR := Lib.hid hrow
        have HB := Lib.hid B3
        clear hrow hne hbox B3
        go_wp2_with fail
        go_loop [5, 7] (fun x i => ∃ k : Nat, k ≤ xs.length ∧ i = .int .i64 k ∧ x = .int .i64 ((xs.take k).foldl max 0)) (fun _ i => xs.length - (intOf i).toNat)
        case atStart => exact ⟨0, by omega, rfl, rfl⟩
        case round =>
          obtain ⟨k, hk, rfl, rfl⟩ := hrel
          by_cases hlt : k < xs.length
          · have d5 : decide ((k : Int) < (xs.length : Int)) = true := decide_eq_true (by omega)
            obtain ⟨x, hx⟩ : ∃ x, xs[k]? = some x := ⟨_, List.getElem?_eq_getElem hlt⟩
            obtain ⟨g, hal, hcell⟩ := row_at HR.out hx
            subst hal
            have HT := Lib.hid (take_max hx)
            clear hx
            obtain ⟨y, hy⟩ : ∃ y, (xs.take k).foldl max 0 = y := ⟨_, rfl⟩
            rw [hy] at HT ⊢
            clear hy
            by_cases hc : y < x
            · have d6 : decide (y < x) = true := decide_eq_true hc
              have HT2 := Lib.hid (show (xs.take (k + 1)).foldl max 0 = x by rw [HT.out]; omega)
              go_wp2_with fail
              go_round
              case rel => exact ⟨k + 1, by omega, by go_num, by rw [HT2.out]⟩
              case measure => simp [intOf]; omega
            · have d6 : decide (y < x) = false := decide_eq_false hc
              have HT2 := Lib.hid (show (xs.take (k + 1)).foldl max 0 = y by rw [HT.out]; omega)
              go_wp2_with fail
              go_round
              case rel => exact ⟨k + 1, by omega, by go_num, by rw [HT2.out]⟩
              case measure => simp [intOf]; omega
          · have d5 : decide ((k : Int) < (xs.length : Int)) = false := decide_eq_false (by omega)
            have hfin := Lib.hid (show (xs.take k).foldl max 0 = M by rw [List.take_of_length_le (by omega)]; exact HM.out)
            go_wp2_with fail
            go_ret
            exact ⟨ret_int hfin.out, HB.out⟩
  · have e3 := h4 rfl
    subst e3
    clear h4 hb
    go_upto_if 30 with fail
    refine code_forget (fun w' => Below w.heap.size w w' ∧ Box w' (w.heap.size + 1) #[.int .i64 p.last, .int .i64 p.gap, .int .i64 p.exp, .int .i64 p.fails, .int .i64 p.state, .int .i64 p.till, .int .i64 p.retry, .int .i64 p.reset, .int .i64 p.flying, .int .i64 p.known, .bool p.all, .bool p.none, .slice p.ra p.rl p.rc, .int .i64 p.delay] 28 ∧ w'.ownsRow w.heap.size 3 1 (.slice (some ⟨wz.heap.size, 0, none⟩) 2 2) 2 [.int .i64 p.retry, .int .i64 p.reset] ∧ wz.heap.size ≠ w.heap.size + 1) ⟨B0.alloc B0.size _, x0.alloc _, ⟨rfl, Or.inr ⟨wz.heap.size, 2, _, rfl, B0.size, heap_alloc_new _ _, Nat.le_refl _, (by decide), rfl, rfl⟩⟩, (by omega)⟩ ?_
    rintro wy ⟨B1, hbox, hrow0, hn0⟩
    clear l0 c0 f0 l1 c1 f1 x0 z0 B0
    go_cut [6] (fun s6 wx => ∃ (al : Option Addr) (capl : Nat) (xs : List Int), s6 = .slice al xs.length capl ∧ xs.length ≤ 3 ∧ Hid (xs.foldl max 0 = M1) ∧ wx.ownsRow w.heap.size 3 1 (.slice al xs.length capl) xs.length (xs.map (Value.int .i64)) ∧ (∀ x, al = some x → x.block ≠ w.heap.size + 1) ∧ Below w.heap.size w wx ∧ Box wx (w.heap.size + 1) #[.int .i64 p.last, .int .i64 p.gap, .int .i64 p.exp, .int .i64 p.fails, .int .i64 p.state, .int .i64 p.till, .int .i64 p.retry, .int .i64 p.reset, .int .i64 p.flying, .int .i64 p.known, .bool p.all, .bool p.none, .slice p.ra p.rl p.rc, .int .i64 p.delay] 28)
    case first =>
      obtain ⟨l0, c0, f0⟩ := hbox.facts
      by_cases hc : 0 ≤ p.last
      · have d4 : decide (0 ≤ p.last) = true := decide_eq_true hc
        have E1 : M1 = max (max (max 0 p.retry) p.reset) X := by rw [← HM1.out, if_pos hc]
        have E1 := Lib.hid E1
        go_wp2_with (first | (go_at_call 32; refine (radd_as _ _ X HX.out _).mono ?_; rintro e w' ⟨rfl, rfl⟩) | (at_builtin; refine wpList_append_own_at _ rfl _ _ 68 rfl w.heap.size 3 i0 (.int .i64 0) 1 8 Try.underlying68 hi hz0 hz1 hz2 rfl (by decide) (.slice (some ⟨wz.heap.size, 0, none⟩) 2 2) 2 _ rfl (hrow0.alloc _) ⟨wy.heap.size, 0, none⟩ 1 1 [.int .i64 X] rfl rfl (cell_one_new _ _ _) (fun x hx => (by simp at hx; subst hx; rfl)) (by decide) (by decide) (by simp; have := B1.size; omega) ?_; intro v' w1 hown' hgrow hnil hloc; obtain ⟨a', cap', rfl⟩ := own_slice hown'; have x1 := (hbox.alloc (.cells #[.int .i64 X] 3)).kept hgrow (by simp [Value.ownBlock]; omega); have B2 := ((B1.alloc B1.size (.cells #[.int .i64 X] 3)).grown hgrow (by simp; have := B1.size; omega) (fun k hk => ((hrow0.alloc (.cells #[.int .i64 X] 3)).lt k hk).1))))
        go_meet
        exact ⟨a', cap', [p.retry, p.reset, X], rfl, (by simp), Lib.hid (by rw [E1.out]; rfl), hown', (fun y hy => (by
          subst hy
          rcases hloc with e | e
          · (simp [Value.ownBlock] at e; rw [e]; exact hn0)
          · (simp [Value.ownBlock] at e; have := hbox.lt; omega))), B2, x1⟩
      · have d4 : decide (0 ≤ p.last) = false := decide_eq_false hc
        have E1 : M1 = max (max 0 p.retry) p.reset := by rw [← HM1.out, if_neg hc]
        have E1 := Lib.hid E1
        go_wp2_with fail
        go_meet
        exact ⟨_, 2, [p.retry, p.reset], rfl, (by simp), Lib.hid (by rw [E1.out]; rfl), hrow0, (fun y hy => (by cases hy; exact hn0)), B1, hbox⟩
    case rest =>
      obtain ⟨al, capl, xs, rfl, hlen, HM, hrow, hne, B3, hbox'⟩ := hcut
      clear hbox hrow0 hn0 B1
      have hbox := hbox'
      clear hbox'
      obtain ⟨l0, c0, f0⟩ := hbox.facts
      go_upto_if 41 with fail
      go_cut [6] (fun s6 wx => ∃ (al : Option Addr) (capl : Nat) (xs : List Int), s6 = .slice al xs.length capl ∧ xs.length ≤ 4 ∧ Hid (xs.foldl max 0 = M) ∧ wx.ownsRow w.heap.size 3 1 (.slice al xs.length capl) xs.length (xs.map (Value.int .i64)) ∧ (∀ x, al = some x → x.block ≠ w.heap.size + 1) ∧ Below w.heap.size w wx ∧ Box wx (w.heap.size + 1) #[.int .i64 p.last, .int .i64 p.gap, .int .i64 p.exp, .int .i64 p.fails, .int .i64 p.state, .int .i64 p.till, .int .i64 p.retry, .int .i64 p.reset, .int .i64 p.flying, .int .i64 p.known, .bool p.all, .bool p.none, .slice p.ra p.rl p.rc, .int .i64 p.delay] 28)
      case first =>
        by_cases hc : p.state = 1
        · have d4 : (p.state == 1) = true := by simp [hc]
          have E1 := Lib.hid (show M = max M1 p.till by rw [← HM2.out, if_pos hc])
          clear hc
          go_wp2_with (at_builtin; refine wpList_append_own_at _ rfl _ _ 68 rfl w.heap.size 3 i0 (.int .i64 0) 1 8 Try.underlying68 hi hz0 hz1 hz2 rfl (by decide) (.slice al xs.length capl) _ _ rfl (hrow.alloc _) ⟨wc.heap.size, 0, none⟩ 1 1 [.int .i64 p.till] rfl rfl (cell_one_new _ _ _) (fun x hx => (by simp at hx; subst hx; rfl)) (by unfold maxLen; omega) (by omega) (by simp; have := B3.size; omega) ?_; intro v' w1 hown' hgrow hnil hloc; obtain ⟨a', cap', rfl⟩ := own_slice hown'; have x1 := (hbox.alloc (.cells #[.int .i64 p.till] 3)).kept hgrow (by intro e; cases al with | none => simp [Value.ownBlock] at e | some y => (simp [Value.ownBlock] at e; exact hne y rfl e.symm)); have B2 := ((B3.alloc B3.size (.cells #[.int .i64 p.till] 3)).grown hgrow (by simp; have := B3.size; omega) (fun k hk => ((hrow.alloc (.cells #[.int .i64 p.till] 3)).lt k hk).1)))
          go_meet
          exact ⟨a', cap', xs ++ [p.till], (by simp), (by simp; omega), Lib.hid (by rw [List.foldl_append, HM.out, E1.out]; rfl), (by simpa using hown'), (fun y hy => (by
            subst hy
            rcases hloc with e | e
            · cases al with
              | none => simp [Value.ownBlock] at e
              | some z => (simp [Value.ownBlock] at e; rw [e]; exact hne z rfl)
            · (simp [Value.ownBlock] at e; have := hbox.lt; omega))), B2, x1⟩
        · have d4 : (p.state == 1) = false := by simp [hc]
          have E1 := Lib.hid (show M = M1 by rw [← HM2.out, if_neg hc])
          clear hc
          go_wp2_with fail
          go_meet
          exact ⟨al, capl, xs, rfl, (by omega), Lib.hid (by rw [E1.out]; exact HM.out), hrow, hne, B3, hbox⟩
      case rest =>
        clear hbox hrow hne B3 hlen HM l0 c0 f0 al capl xs
        obtain ⟨al, capl, xs, rfl, hlen, HM, hrow, hne, B3, hbox⟩ := hcut
        have HR := Lib.hid hrow
        have HB := Lib.hid B3
        clear hrow hne hbox B3
        go_wp2_with fail
        go_loop [5, 7] (fun x i => ∃ k : Nat, k ≤ xs.length ∧ i = .int .i64 k ∧ x = .int .i64 ((xs.take k).foldl max 0)) (fun _ i => xs.length - (intOf i).toNat)
        case atStart => exact ⟨0, by omega, rfl, rfl⟩
        case round =>
          obtain ⟨k, hk, rfl, rfl⟩ := hrel
          by_cases hlt : k < xs.length
          · have d5 : decide ((k : Int) < (xs.length : Int)) = true := decide_eq_true (by omega)
            obtain ⟨x, hx⟩ : ∃ x, xs[k]? = some x := ⟨_, List.getElem?_eq_getElem hlt⟩
            obtain ⟨g, hal, hcell⟩ := row_at HR.out hx
            subst hal
            have HT := Lib.hid (take_max hx)
            clear hx
            obtain ⟨y, hy⟩ : ∃ y, (xs.take k).foldl max 0 = y := ⟨_, rfl⟩
            rw [hy] at HT ⊢
            clear hy
            by_cases hc : y < x
            · have d6 : decide (y < x) = true := decide_eq_true hc
              have HT2 := Lib.hid (show (xs.take (k + 1)).foldl max 0 = x by rw [HT.out]; omega)
              go_wp2_with fail
              go_round
              case rel => exact ⟨k + 1, by omega, by go_num, by rw [HT2.out]⟩
              case measure => simp [intOf]; omega
            · have d6 : decide (y < x) = false := decide_eq_false hc
              have HT2 := Lib.hid (show (xs.take (k + 1)).foldl max 0 = y by rw [HT.out]; omega)
              go_wp2_with fail
              go_round
              case rel => exact ⟨k + 1, by omega, by go_num, by rw [HT2.out]⟩
              case measure => simp [intOf]; omega
          · have d5 : decide ((k : Int) < (xs.length : Int)) = false := decide_eq_false (by omega)
            have hfin := Lib.hid (show (xs.take k).foldl max 0 = M by rw [List.take_of_length_le (by omega)]; exact HM.out)
            go_wp2_with fail
            go_ret
            exact ⟨ret_int hfin.out, HB.out⟩
theorem relig_any (c : Cfg) (p : Pol) (w : World) : Calls Try.prog 16 #[.agg #[.int .i64 c.hosts, .int .i64 c.perHost, .int .i64 c.memory, .int .i64 c.segs, .int .i64 c.floor, .int .i64 c.cap, .int .i64 c.base, .int .i64 c.most, .int .i64 c.brk, .int .i64 c.opn, .int .i64 c.rate, .int .i64 c.burst, .int .i64 c.keep, .string c.agent], .agg #[.int .i64 p.last, .int .i64 p.gap, .int .i64 p.exp, .int .i64 p.fails, .int .i64 p.state, .int .i64 p.till, .int .i64 p.retry, .int .i64 p.reset, .int .i64 p.flying, .int .i64 p.known, .bool p.all, .bool p.none, .slice p.ra p.rl p.rc, .int .i64 p.delay]] w fun e w' => e = .returned (.int .i64 (eligP c p (addI p.last p.gap))) ∧ Below w.heap.size w w' := by
  unfold eligP
  by_cases h : c.cap ≤ p.flying ∨ (p.state ≠ 0 ∧ 0 < p.flying)
  · rw [if_pos h]
    exact relig_top c p h w
  · rw [if_neg h]
    have h1 : ¬ c.cap ≤ p.flying := fun e => h (Or.inl e)
    refine relig_in c p (addI p.last p.gap) _ _ rfl rfl ?_ h1 _ _ rfl rfl ?_ w
    · rfl
    · cases h2 : (p.state != 0)
      · rfl
      · cases h3 : decide (0 < p.flying)
        · rfl
        · exact absurd (Or.inr ⟨by simpa using h2, by simpa using h3⟩) h
end Go.Proofs.Ytelakgbpfnlpiaa
