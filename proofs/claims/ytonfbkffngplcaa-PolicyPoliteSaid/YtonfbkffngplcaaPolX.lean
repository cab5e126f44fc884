/- The reference's comparison, of a policy with itself. -/
import Derived.Test.YtonfbkffngplcaaPolOpen
import Derived.Test.YtonfbkffngplcaaPolG
import Derived.Test.YtonfbkffngplcaaLast
import Derived.Deep.Cut
import Derived.Deep.CutRange
import Derived.Deep.DeepCutAuto
import Derived.Deep.DrawnRows
import Derived.Laws.StructEq
namespace Go.Proofs.Ytonfbkffngplcaa
open Go.RowKit


theorem rule_eq (a : Bool) (s : ByteArray) (w : World) : (binOp .neq 56 (.agg #[.bool a, .string s]) (.agg #[.bool a, .string s])).run Try.prog w = .ok (.bool false) w := by
  have ht : Try.prog.underlying 56 = some (.struct (Try.prog.fieldsOf 56)) := by kernel_rfl
  have hp : Try.prog.stoodInHeld 56 = false := by kernel_rfl
  have _hm : Try.prog.eqGuardType Try.prog.depth 56 = false := by kernel_rfl
  rw [run_neq_struct, run_equalIn_agg w 9999 _ _ _ ht hp]
  simp only [Program.fieldsOf, Try.underlying56]
  simp [go_sem, Try.underlying4, Try.underlying9]
theorem IsRules.later {w w' : World} {a : Option Addr} {len cap : Nat} {L : Nat → Bool × ByteArray} (h : IsRules w a len cap L) (hb : Below w.heap.size w w') : IsRules w' a len cap L := by
  rcases h with h | ⟨b, off, ha, hl, hm, hc⟩
  · exact Or.inl h
  · refine Or.inr ⟨b, off, ha, hl, hm, fun i hi => ?_⟩
    obtain ⟨h1, h2, h3⟩ := hc i hi
    exact ⟨(hb.cell (p := ⟨b, off + i * 2, none⟩) (World.block_lt_of_cell? _ _ h1)).trans h1, (hb.cell (p := ⟨b, off + i * 2 + 1, none⟩) (World.block_lt_of_cell? _ _ h2)).trans h2, h3⟩
set_option maxRecDepth 100000 in
set_option maxHeartbeats 40000000 in
theorem same_some (p : Pol) (b off : Nat) (L : Nat → Bool × ByteArray) (w : World) (hc : ∀ i, i < p.rc → w.cell? ⟨b, off + i * 2, none⟩ = some (.bool (L i).1) ∧ w.cell? ⟨b, off + i * 2 + 1, none⟩ = some (.string (L i).2) ∧ (L i).2.size ≤ maxLen) (hlc : p.rl ≤ p.rc) (hl : p.rl ≤ 100) : Calls Try.prog 20 #[.agg #[.int .i64 p.last, .int .i64 p.gap, .int .i64 p.exp, .int .i64 p.fails, .int .i64 p.state, .int .i64 p.till, .int .i64 p.retry, .int .i64 p.reset, .int .i64 p.flying, .int .i64 p.known, .bool p.all, .bool p.none, .slice (some ⟨b, off, none⟩) p.rl p.rc, .int .i64 p.delay], .agg #[.int .i64 p.last, .int .i64 p.gap, .int .i64 p.exp, .int .i64 p.fails, .int .i64 p.state, .int .i64 p.till, .int .i64 p.retry, .int .i64 p.reset, .int .i64 p.flying, .int .i64 p.known, .bool p.all, .bool p.none, .slice (some ⟨b, off, none⟩) p.rl p.rc, .int .i64 p.delay]] w fun e w' => e = .returned (.bool true) ∧ Below w.heap.size w w' := by
  have hn := rule_eq
  have HC := Lib.hid hc
  clear hc
  have x0 := (Box.new w #[.int .i64 p.last, .int .i64 p.gap, .int .i64 p.exp, .int .i64 p.fails, .int .i64 p.state, .int .i64 p.till, .int .i64 p.retry, .int .i64 p.reset, .int .i64 p.flying, .int .i64 p.known, .bool p.all, .bool p.none, .slice (some ⟨b, off, none⟩) p.rl p.rc, .int .i64 p.delay] 29).alloc (.cells #[.int .i64 p.last, .int .i64 p.gap, .int .i64 p.exp, .int .i64 p.fails, .int .i64 p.state, .int .i64 p.till, .int .i64 p.retry, .int .i64 p.reset, .int .i64 p.flying, .int .i64 p.known, .bool p.all, .bool p.none, .slice (some ⟨b, off, none⟩) p.rl p.rc, .int .i64 p.delay] 29)
  have y0 := Box.new (w.alloc (.cells #[.int .i64 p.last, .int .i64 p.gap, .int .i64 p.exp, .int .i64 p.fails, .int .i64 p.state, .int .i64 p.till, .int .i64 p.retry, .int .i64 p.reset, .int .i64 p.flying, .int .i64 p.known, .bool p.all, .bool p.none, .slice (some ⟨b, off, none⟩) p.rl p.rc, .int .i64 p.delay] 29)) #[.int .i64 p.last, .int .i64 p.gap, .int .i64 p.exp, .int .i64 p.fails, .int .i64 p.state, .int .i64 p.till, .int .i64 p.retry, .int .i64 p.reset, .int .i64 p.flying, .int .i64 p.known, .bool p.all, .bool p.none, .slice (some ⟨b, off, none⟩) p.rl p.rc, .int .i64 p.delay] 29
  have B0 := ((Below.refl w.heap.size w).alloc (Nat.le_refl _) (.cells #[.int .i64 p.last, .int .i64 p.gap, .int .i64 p.exp, .int .i64 p.fails, .int .i64 p.state, .int .i64 p.till, .int .i64 p.retry, .int .i64 p.reset, .int .i64 p.flying, .int .i64 p.known, .bool p.all, .bool p.none, .slice (some ⟨b, off, none⟩) p.rl p.rc, .int .i64 p.delay] 29)).alloc (by simp) (.cells #[.int .i64 p.last, .int .i64 p.gap, .int .i64 p.exp, .int .i64 p.fails, .int .i64 p.state, .int .i64 p.till, .int .i64 p.retry, .int .i64 p.reset, .int .i64 p.flying, .int .i64 p.known, .bool p.all, .bool p.none, .slice (some ⟨b, off, none⟩) p.rl p.rc, .int .i64 p.delay] 29)
  rw [World.size_alloc] at y0
  go_enter Try.func20, Try.ntmps20
  go_upto_region 1 with fail
  generalize ((w.alloc (.cells #[.int .i64 p.last, .int .i64 p.gap, .int .i64 p.exp, .int .i64 p.fails, .int .i64 p.state, .int .i64 p.till, .int .i64 p.retry, .int .i64 p.reset, .int .i64 p.flying, .int .i64 p.known, .bool p.all, .bool p.none, .slice (some ⟨b, off, none⟩) p.rl p.rc, .int .i64 p.delay] 29)).alloc (.cells #[.int .i64 p.last, .int .i64 p.gap, .int .i64 p.exp, .int .i64 p.fails, .int .i64 p.state, .int .i64 p.till, .int .i64 p.retry, .int .i64 p.reset, .int .i64 p.flying, .int .i64 p.known, .bool p.all, .bool p.none, .slice (some ⟨b, off, none⟩) p.rl p.rc, .int .i64 p.delay] 29)) = wz at *
  have q0 := y0.lt
  go_cut [5, 6] (fun s5 s6 wx => ∃ g5 g6 : Nat, s5 = .pointer (some ⟨g5, 0, none⟩) ∧ s6 = .pointer (some ⟨g6, 0, none⟩) ∧ Below w.heap.size w wx ∧ Box wx w.heap.size #[.int .i64 p.last, .int .i64 p.gap, .int .i64 p.exp, .int .i64 p.fails, .int .i64 p.state, .int .i64 p.till, .int .i64 p.retry, .int .i64 p.reset, .int .i64 p.flying, .int .i64 p.known, .bool p.all, .bool p.none, .slice (some ⟨b, off, none⟩) p.rl p.rc, .int .i64 p.delay] 29 ∧ Box wx (w.heap.size + 1) #[.int .i64 p.last, .int .i64 p.gap, .int .i64 p.exp, .int .i64 p.fails, .int .i64 p.state, .int .i64 p.till, .int .i64 p.retry, .int .i64 p.reset, .int .i64 p.flying, .int .i64 p.known, .bool p.all, .bool p.none, .slice (some ⟨b, off, none⟩) p.rl p.rc, .int .i64 p.delay] 29 ∧ Box wx g5 #[.bool p.all, .bool p.none, .slice (some ⟨b, off, none⟩) p.rl p.rc, .int .i64 p.delay] 27 ∧ Box wx g6 #[.bool p.all, .bool p.none, .slice (some ⟨b, off, none⟩) p.rl p.rc, .int .i64 p.delay] 27)
  case first =>
    refine wp_region_last 7 (fun w' => Below w.heap.size w w' ∧ Box w' (w.heap.size) #[.int .i64 p.last, .int .i64 p.gap, .int .i64 p.exp, .int .i64 p.fails, .int .i64 p.state, .int .i64 p.till, .int .i64 p.retry, .int .i64 p.reset, .int .i64 p.flying, .int .i64 p.known, .bool p.all, .bool p.none, .slice (some ⟨b, off, none⟩) p.rl p.rc, .int .i64 p.delay] 29 ∧ Box w' (w.heap.size + 1) #[.int .i64 p.last, .int .i64 p.gap, .int .i64 p.exp, .int .i64 p.fails, .int .i64 p.state, .int .i64 p.till, .int .i64 p.retry, .int .i64 p.reset, .int .i64 p.flying, .int .i64 p.known, .bool p.all, .bool p.none, .slice (some ⟨b, off, none⟩) p.rl p.rc, .int .i64 p.delay] 29) (by kernel_rfl) (⟨B0.drew, x0.drew, y0.drew⟩) (fun hHeld hClosed => ?_)
    refine wpAnyL_take (i := 0) (v := ?_) rfl (by kernel_rfl) (by kernel_rfl) (by kernel_rfl) (by kernel_rfl) (fun _ _ _ h => h) (by kernel_rfl) (by assumption) (Or.inl ⟨by rfl, ?_⟩) (by assumption) (fun hClosed => ?_)
    rotate_left
    · intro wv hSw; go_simp; all_goals (with_reducible rfl)
    (try simp only [put_at, List.set])
    refine wpAnyL_take (i := 1) (v := ?_) rfl (by kernel_rfl) (by kernel_rfl) (by kernel_rfl) (by kernel_rfl) (fun _ _ _ h => h) (by kernel_rfl) (by assumption) (Or.inl ⟨by rfl, ?_⟩) (by assumption) (fun hClosed => ?_)
    rotate_left
    · intro wv hSw; obtain ⟨_, hx, hy⟩ := hSw; have cx := hx.cell; have cy := hy.cell; go_simp; all_goals (with_reducible rfl)
    (try simp only [put_at, List.set])
    refine wpAnyL_take (i := 2) (v := ?_) rfl (by kernel_rfl) (by kernel_rfl) (by kernel_rfl) (by kernel_rfl) (fun _ _ _ h => h) (by kernel_rfl) (by assumption) (Or.inl ⟨by rfl, ?_⟩) (by assumption) (fun hClosed => ?_)
    rotate_left
    · intro wv hSw; go_simp; all_goals (with_reducible rfl)
    (try simp only [put_at, List.set])
    refine wpAnyL_take (i := 3) (v := ?_) rfl (by kernel_rfl) (by kernel_rfl) (by kernel_rfl) (by kernel_rfl) (fun _ _ _ h => h) (by kernel_rfl) (by assumption) (Or.inl ⟨by rfl, ?_⟩) (by assumption) (fun hClosed => ?_)
    rotate_left
    · intro wv hSw; obtain ⟨_, hx, hy⟩ := hSw; have cx := hx.cell; have cy := hy.cell; go_simp; all_goals (with_reducible rfl)
    (try simp only [put_at, List.set])
    refine wpAnyL_two (i := 4) (j := 5) rfl rfl (by kernel_rfl) (by kernel_rfl) (by kernel_rfl) (by assumption) (fun KK hK => ?_) (fun KK hK => ?_)
    · go_simp
      refine hK.out _ _ ?_ (fun hClosed hHeld => ?_)
      · exact ⟨hHeld.1.alloc hHeld.1.size _, hHeld.2.1.alloc _, hHeld.2.2.alloc _⟩
      clear hK KK
      (try simp only [put_at, List.set])
      refine last_forget (fun w' => (Below w.heap.size w w' ∧ Box w' (w.heap.size) #[.int .i64 p.last, .int .i64 p.gap, .int .i64 p.exp, .int .i64 p.fails, .int .i64 p.state, .int .i64 p.till, .int .i64 p.retry, .int .i64 p.reset, .int .i64 p.flying, .int .i64 p.known, .bool p.all, .bool p.none, .slice (some ⟨b, off, none⟩) p.rl p.rc, .int .i64 p.delay] 29 ∧ Box w' (w.heap.size + 1) #[.int .i64 p.last, .int .i64 p.gap, .int .i64 p.exp, .int .i64 p.fails, .int .i64 p.state, .int .i64 p.till, .int .i64 p.retry, .int .i64 p.reset, .int .i64 p.flying, .int .i64 p.known, .bool p.all, .bool p.none, .slice (some ⟨b, off, none⟩) p.rl p.rc, .int .i64 p.delay] 29) ∧ Box w' wz.heap.size #[.bool false, .bool false, .slice .none 0 0, .int .i64 0] 27) ⟨hHeld, Box.new _ _ _⟩ ?_
      rintro wa ⟨hHeld, ba⟩
      have qa := ba.lt
      refine wpAnyL_one (i := 5) rfl (by kernel_rfl) (by kernel_rfl) (by assumption) (fun KK hK => ?_)
      go_simp
      refine hK.out _ _ ?_ (fun hClosed hHeld => ?_)
      · exact ⟨hHeld.1.alloc hHeld.1.size _, hHeld.2.1.alloc _, hHeld.2.2.alloc _⟩
      clear hK KK
      (try simp only [put_at, List.set])
      refine last_forget (fun w' => (Below w.heap.size w w' ∧ Box w' (w.heap.size) #[.int .i64 p.last, .int .i64 p.gap, .int .i64 p.exp, .int .i64 p.fails, .int .i64 p.state, .int .i64 p.till, .int .i64 p.retry, .int .i64 p.reset, .int .i64 p.flying, .int .i64 p.known, .bool p.all, .bool p.none, .slice (some ⟨b, off, none⟩) p.rl p.rc, .int .i64 p.delay] 29 ∧ Box w' (w.heap.size + 1) #[.int .i64 p.last, .int .i64 p.gap, .int .i64 p.exp, .int .i64 p.fails, .int .i64 p.state, .int .i64 p.till, .int .i64 p.retry, .int .i64 p.reset, .int .i64 p.flying, .int .i64 p.known, .bool p.all, .bool p.none, .slice (some ⟨b, off, none⟩) p.rl p.rc, .int .i64 p.delay] 29) ∧ Box w' wz.heap.size #[.bool false, .bool false, .slice .none 0 0, .int .i64 0] 27 ∧ Box w' wa.heap.size #[.bool false, .bool false, .slice .none 0 0, .int .i64 0] 27) ⟨hHeld, ba.alloc _, Box.new _ _ _⟩ ?_
      rintro wb ⟨hHeld, b1, b2⟩
      refine wpAnyL_one (i := 6) rfl (by kernel_rfl) (by kernel_rfl) (by assumption) (fun KK hK => ?_)
      obtain ⟨l1, c1, f1⟩ := b1.facts
      go_simp
      refine hK.out _ _ ?_ (fun hClosed hHeld => ?_)
      · exact ⟨((((hHeld.1.setCell (p := ⟨wz.heap.size, 0, none⟩) (by dsimp only; omega) (.bool p.all)).setCell (p := ⟨wz.heap.size, 1, none⟩) (by dsimp only; omega) (.bool p.none)).setCell (p := ⟨wz.heap.size, 2, none⟩) (by dsimp only; omega) (.slice (some ⟨b, off, none⟩) p.rl p.rc)).setCell (p := ⟨wz.heap.size, 3, none⟩) (by dsimp only; omega) (.int .i64 p.delay)), ((((hHeld.2.1.other (a := ⟨wz.heap.size, 0, none⟩) (by dsimp only; omega) (.bool p.all)).other (a := ⟨wz.heap.size, 1, none⟩) (by dsimp only; omega) (.bool p.none)).other (a := ⟨wz.heap.size, 2, none⟩) (by dsimp only; omega) (.slice (some ⟨b, off, none⟩) p.rl p.rc)).other (a := ⟨wz.heap.size, 3, none⟩) (by dsimp only; omega) (.int .i64 p.delay)), ((((hHeld.2.2.other (a := ⟨wz.heap.size, 0, none⟩) (by dsimp only; omega) (.bool p.all)).other (a := ⟨wz.heap.size, 1, none⟩) (by dsimp only; omega) (.bool p.none)).other (a := ⟨wz.heap.size, 2, none⟩) (by dsimp only; omega) (.slice (some ⟨b, off, none⟩) p.rl p.rc)).other (a := ⟨wz.heap.size, 3, none⟩) (by dsimp only; omega) (.int .i64 p.delay))⟩
      clear hK KK
      (try simp only [put_at, List.set])
      have b3 := ((((b1.set 0 (.bool p.all)).set 1 (.bool p.none)).set 2 (.slice (some ⟨b, off, none⟩) p.rl p.rc)).set 3 (.int .i64 p.delay))
      simp only [List.setIfInBounds_toArray, List.set_cons_succ, List.set_cons_zero] at b3
      refine last_forget (fun w' => (Below w.heap.size w w' ∧ Box w' (w.heap.size) #[.int .i64 p.last, .int .i64 p.gap, .int .i64 p.exp, .int .i64 p.fails, .int .i64 p.state, .int .i64 p.till, .int .i64 p.retry, .int .i64 p.reset, .int .i64 p.flying, .int .i64 p.known, .bool p.all, .bool p.none, .slice (some ⟨b, off, none⟩) p.rl p.rc, .int .i64 p.delay] 29 ∧ Box w' (w.heap.size + 1) #[.int .i64 p.last, .int .i64 p.gap, .int .i64 p.exp, .int .i64 p.fails, .int .i64 p.state, .int .i64 p.till, .int .i64 p.retry, .int .i64 p.reset, .int .i64 p.flying, .int .i64 p.known, .bool p.all, .bool p.none, .slice (some ⟨b, off, none⟩) p.rl p.rc, .int .i64 p.delay] 29) ∧ Box w' (wz.heap.size) #[.bool p.all, .bool p.none, .slice (some ⟨b, off, none⟩) p.rl p.rc, .int .i64 p.delay] 27 ∧ Box w' (wa.heap.size) #[.bool false, .bool false, .slice .none 0 0, .int .i64 0] 27) ⟨hHeld, b3, ((((b2.other (a := ⟨wz.heap.size, 0, none⟩) (by dsimp only; omega) (.bool p.all)).other (a := ⟨wz.heap.size, 1, none⟩) (by dsimp only; omega) (.bool p.none)).other (a := ⟨wz.heap.size, 2, none⟩) (by dsimp only; omega) (.slice (some ⟨b, off, none⟩) p.rl p.rc)).other (a := ⟨wz.heap.size, 3, none⟩) (by dsimp only; omega) (.int .i64 p.delay))⟩ ?_
      clear b1 b2 b3 l1 c1 f1
      rintro wd ⟨hHeld, b5, b6⟩
      refine wpAnyL_last rfl (by kernel_rfl) (by kernel_rfl) (fun KK hK => ?_)
      obtain ⟨l1, c1, f1⟩ := b6.facts
      go_simp
      refine hK.out _ _ ?_
      (try simp only [put_at, List.set])
      go_wp2_with fail
      go_meet
      exact ⟨wz.heap.size, wa.heap.size, rfl, rfl, ((((hHeld.1.setCell (p := ⟨wa.heap.size, 0, none⟩) (by dsimp only; omega) (.bool p.all)).setCell (p := ⟨wa.heap.size, 1, none⟩) (by dsimp only; omega) (.bool p.none)).setCell (p := ⟨wa.heap.size, 2, none⟩) (by dsimp only; omega) (.slice (some ⟨b, off, none⟩) p.rl p.rc)).setCell (p := ⟨wa.heap.size, 3, none⟩) (by dsimp only; omega) (.int .i64 p.delay)), ((((hHeld.2.1.other (a := ⟨wa.heap.size, 0, none⟩) (by dsimp only; omega) (.bool p.all)).other (a := ⟨wa.heap.size, 1, none⟩) (by dsimp only; omega) (.bool p.none)).other (a := ⟨wa.heap.size, 2, none⟩) (by dsimp only; omega) (.slice (some ⟨b, off, none⟩) p.rl p.rc)).other (a := ⟨wa.heap.size, 3, none⟩) (by dsimp only; omega) (.int .i64 p.delay)), ((((hHeld.2.2.other (a := ⟨wa.heap.size, 0, none⟩) (by dsimp only; omega) (.bool p.all)).other (a := ⟨wa.heap.size, 1, none⟩) (by dsimp only; omega) (.bool p.none)).other (a := ⟨wa.heap.size, 2, none⟩) (by dsimp only; omega) (.slice (some ⟨b, off, none⟩) p.rl p.rc)).other (a := ⟨wa.heap.size, 3, none⟩) (by dsimp only; omega) (.int .i64 p.delay)), ((((b5.other (a := ⟨wa.heap.size, 0, none⟩) (by dsimp only; omega) (.bool p.all)).other (a := ⟨wa.heap.size, 1, none⟩) (by dsimp only; omega) (.bool p.none)).other (a := ⟨wa.heap.size, 2, none⟩) (by dsimp only; omega) (.slice (some ⟨b, off, none⟩) p.rl p.rc)).other (a := ⟨wa.heap.size, 3, none⟩) (by dsimp only; omega) (.int .i64 p.delay)), (by have := ((((b6.set 0 (.bool p.all)).set 1 (.bool p.none)).set 2 (.slice (some ⟨b, off, none⟩) p.rl p.rc)).set 3 (.int .i64 p.delay)); simp only [List.setIfInBounds_toArray, List.set_cons_succ, List.set_cons_zero] at this; exact this)⟩
    · go_simp
      refine hK.out _ _ ?_ (fun hClosed hHeld => ?_)
      · exact ⟨hHeld.1.alloc hHeld.1.size _, hHeld.2.1.alloc _, hHeld.2.2.alloc _⟩
      clear hK KK
      (try simp only [put_at, List.set])
      refine last_forget (fun w' => (Below w.heap.size w w' ∧ Box w' (w.heap.size) #[.int .i64 p.last, .int .i64 p.gap, .int .i64 p.exp, .int .i64 p.fails, .int .i64 p.state, .int .i64 p.till, .int .i64 p.retry, .int .i64 p.reset, .int .i64 p.flying, .int .i64 p.known, .bool p.all, .bool p.none, .slice (some ⟨b, off, none⟩) p.rl p.rc, .int .i64 p.delay] 29 ∧ Box w' (w.heap.size + 1) #[.int .i64 p.last, .int .i64 p.gap, .int .i64 p.exp, .int .i64 p.fails, .int .i64 p.state, .int .i64 p.till, .int .i64 p.retry, .int .i64 p.reset, .int .i64 p.flying, .int .i64 p.known, .bool p.all, .bool p.none, .slice (some ⟨b, off, none⟩) p.rl p.rc, .int .i64 p.delay] 29) ∧ Box w' wz.heap.size #[.bool false, .bool false, .slice .none 0 0, .int .i64 0] 27) ⟨hHeld, Box.new _ _ _⟩ ?_
      rintro wa ⟨hHeld, ba⟩
      have qa := ba.lt
      refine wpAnyL_one (i := 4) rfl (by kernel_rfl) (by kernel_rfl) (by assumption) (fun KK hK => ?_)
      go_simp
      refine hK.out _ _ ?_ (fun hClosed hHeld => ?_)
      · exact ⟨hHeld.1.alloc hHeld.1.size _, hHeld.2.1.alloc _, hHeld.2.2.alloc _⟩
      clear hK KK
      (try simp only [put_at, List.set])
      refine last_forget (fun w' => (Below w.heap.size w w' ∧ Box w' (w.heap.size) #[.int .i64 p.last, .int .i64 p.gap, .int .i64 p.exp, .int .i64 p.fails, .int .i64 p.state, .int .i64 p.till, .int .i64 p.retry, .int .i64 p.reset, .int .i64 p.flying, .int .i64 p.known, .bool p.all, .bool p.none, .slice (some ⟨b, off, none⟩) p.rl p.rc, .int .i64 p.delay] 29 ∧ Box w' (w.heap.size + 1) #[.int .i64 p.last, .int .i64 p.gap, .int .i64 p.exp, .int .i64 p.fails, .int .i64 p.state, .int .i64 p.till, .int .i64 p.retry, .int .i64 p.reset, .int .i64 p.flying, .int .i64 p.known, .bool p.all, .bool p.none, .slice (some ⟨b, off, none⟩) p.rl p.rc, .int .i64 p.delay] 29) ∧ Box w' wz.heap.size #[.bool false, .bool false, .slice .none 0 0, .int .i64 0] 27 ∧ Box w' wa.heap.size #[.bool false, .bool false, .slice .none 0 0, .int .i64 0] 27) ⟨hHeld, ba.alloc _, Box.new _ _ _⟩ ?_
      rintro wb ⟨hHeld, b1, b2⟩
      refine wpAnyL_one (i := 6) rfl (by kernel_rfl) (by kernel_rfl) (by assumption) (fun KK hK => ?_)
      obtain ⟨l1, c1, f1⟩ := b2.facts
      go_simp
      refine hK.out _ _ ?_ (fun hClosed hHeld => ?_)
      · exact ⟨((((hHeld.1.setCell (p := ⟨wa.heap.size, 0, none⟩) (by dsimp only; omega) (.bool p.all)).setCell (p := ⟨wa.heap.size, 1, none⟩) (by dsimp only; omega) (.bool p.none)).setCell (p := ⟨wa.heap.size, 2, none⟩) (by dsimp only; omega) (.slice (some ⟨b, off, none⟩) p.rl p.rc)).setCell (p := ⟨wa.heap.size, 3, none⟩) (by dsimp only; omega) (.int .i64 p.delay)), ((((hHeld.2.1.other (a := ⟨wa.heap.size, 0, none⟩) (by dsimp only; omega) (.bool p.all)).other (a := ⟨wa.heap.size, 1, none⟩) (by dsimp only; omega) (.bool p.none)).other (a := ⟨wa.heap.size, 2, none⟩) (by dsimp only; omega) (.slice (some ⟨b, off, none⟩) p.rl p.rc)).other (a := ⟨wa.heap.size, 3, none⟩) (by dsimp only; omega) (.int .i64 p.delay)), ((((hHeld.2.2.other (a := ⟨wa.heap.size, 0, none⟩) (by dsimp only; omega) (.bool p.all)).other (a := ⟨wa.heap.size, 1, none⟩) (by dsimp only; omega) (.bool p.none)).other (a := ⟨wa.heap.size, 2, none⟩) (by dsimp only; omega) (.slice (some ⟨b, off, none⟩) p.rl p.rc)).other (a := ⟨wa.heap.size, 3, none⟩) (by dsimp only; omega) (.int .i64 p.delay))⟩
      clear hK KK
      (try simp only [put_at, List.set])
      have b3 := ((((b2.set 0 (.bool p.all)).set 1 (.bool p.none)).set 2 (.slice (some ⟨b, off, none⟩) p.rl p.rc)).set 3 (.int .i64 p.delay))
      simp only [List.setIfInBounds_toArray, List.set_cons_succ, List.set_cons_zero] at b3
      refine last_forget (fun w' => (Below w.heap.size w w' ∧ Box w' (w.heap.size) #[.int .i64 p.last, .int .i64 p.gap, .int .i64 p.exp, .int .i64 p.fails, .int .i64 p.state, .int .i64 p.till, .int .i64 p.retry, .int .i64 p.reset, .int .i64 p.flying, .int .i64 p.known, .bool p.all, .bool p.none, .slice (some ⟨b, off, none⟩) p.rl p.rc, .int .i64 p.delay] 29 ∧ Box w' (w.heap.size + 1) #[.int .i64 p.last, .int .i64 p.gap, .int .i64 p.exp, .int .i64 p.fails, .int .i64 p.state, .int .i64 p.till, .int .i64 p.retry, .int .i64 p.reset, .int .i64 p.flying, .int .i64 p.known, .bool p.all, .bool p.none, .slice (some ⟨b, off, none⟩) p.rl p.rc, .int .i64 p.delay] 29) ∧ Box w' (wa.heap.size) #[.bool p.all, .bool p.none, .slice (some ⟨b, off, none⟩) p.rl p.rc, .int .i64 p.delay] 27 ∧ Box w' (wz.heap.size) #[.bool false, .bool false, .slice .none 0 0, .int .i64 0] 27) ⟨hHeld, b3, ((((b1.other (a := ⟨wa.heap.size, 0, none⟩) (by dsimp only; omega) (.bool p.all)).other (a := ⟨wa.heap.size, 1, none⟩) (by dsimp only; omega) (.bool p.none)).other (a := ⟨wa.heap.size, 2, none⟩) (by dsimp only; omega) (.slice (some ⟨b, off, none⟩) p.rl p.rc)).other (a := ⟨wa.heap.size, 3, none⟩) (by dsimp only; omega) (.int .i64 p.delay))⟩ ?_
      clear b1 b2 b3 l1 c1 f1
      rintro wd ⟨hHeld, b5, b6⟩
      refine wpAnyL_last rfl (by kernel_rfl) (by kernel_rfl) (fun KK hK => ?_)
      obtain ⟨l1, c1, f1⟩ := b6.facts
      go_simp
      refine hK.out _ _ ?_
      (try simp only [put_at, List.set])
      go_wp2_with fail
      go_meet
      exact ⟨wa.heap.size, wz.heap.size, rfl, rfl, ((((hHeld.1.setCell (p := ⟨wz.heap.size, 0, none⟩) (by dsimp only; omega) (.bool p.all)).setCell (p := ⟨wz.heap.size, 1, none⟩) (by dsimp only; omega) (.bool p.none)).setCell (p := ⟨wz.heap.size, 2, none⟩) (by dsimp only; omega) (.slice (some ⟨b, off, none⟩) p.rl p.rc)).setCell (p := ⟨wz.heap.size, 3, none⟩) (by dsimp only; omega) (.int .i64 p.delay)), ((((hHeld.2.1.other (a := ⟨wz.heap.size, 0, none⟩) (by dsimp only; omega) (.bool p.all)).other (a := ⟨wz.heap.size, 1, none⟩) (by dsimp only; omega) (.bool p.none)).other (a := ⟨wz.heap.size, 2, none⟩) (by dsimp only; omega) (.slice (some ⟨b, off, none⟩) p.rl p.rc)).other (a := ⟨wz.heap.size, 3, none⟩) (by dsimp only; omega) (.int .i64 p.delay)), ((((hHeld.2.2.other (a := ⟨wz.heap.size, 0, none⟩) (by dsimp only; omega) (.bool p.all)).other (a := ⟨wz.heap.size, 1, none⟩) (by dsimp only; omega) (.bool p.none)).other (a := ⟨wz.heap.size, 2, none⟩) (by dsimp only; omega) (.slice (some ⟨b, off, none⟩) p.rl p.rc)).other (a := ⟨wz.heap.size, 3, none⟩) (by dsimp only; omega) (.int .i64 p.delay)), ((((b5.other (a := ⟨wz.heap.size, 0, none⟩) (by dsimp only; omega) (.bool p.all)).other (a := ⟨wz.heap.size, 1, none⟩) (by dsimp only; omega) (.bool p.none)).other (a := ⟨wz.heap.size, 2, none⟩) (by dsimp only; omega) (.slice (some ⟨b, off, none⟩) p.rl p.rc)).other (a := ⟨wz.heap.size, 3, none⟩) (by dsimp only; omega) (.int .i64 p.delay)), (by have := ((((b6.set 0 (.bool p.all)).set 1 (.bool p.none)).set 2 (.slice (some ⟨b, off, none⟩) p.rl p.rc)).set 3 (.int .i64 p.delay)); simp only [List.setIfInBounds_toArray, List.set_cons_succ, List.set_cons_zero] at this; exact this)⟩
  case rest =>
    obtain ⟨g5, g6, rfl, rfl, B1, x1, y1, u1, v1⟩ := hcut
    clear x0 y0 B0 q0
    obtain ⟨l1, c1, f1⟩ := u1.facts
    obtain ⟨l2, c2, f2⟩ := v1.facts
    go_wp2_with fail
    go_loopw [7] (fun i wr => ∃ k : Nat, k ≤ p.rl ∧ i = .int .i64 k ∧ Hid (Below w.heap.size w wr ∧ Box wr w.heap.size #[.int .i64 p.last, .int .i64 p.gap, .int .i64 p.exp, .int .i64 p.fails, .int .i64 p.state, .int .i64 p.till, .int .i64 p.retry, .int .i64 p.reset, .int .i64 p.flying, .int .i64 p.known, .bool p.all, .bool p.none, .slice (some ⟨b, off, none⟩) p.rl p.rc, .int .i64 p.delay] 29 ∧ Box wr (w.heap.size + 1) #[.int .i64 p.last, .int .i64 p.gap, .int .i64 p.exp, .int .i64 p.fails, .int .i64 p.state, .int .i64 p.till, .int .i64 p.retry, .int .i64 p.reset, .int .i64 p.flying, .int .i64 p.known, .bool p.all, .bool p.none, .slice (some ⟨b, off, none⟩) p.rl p.rc, .int .i64 p.delay] 29 ∧ Box wr g5 #[.bool p.all, .bool p.none, .slice (some ⟨b, off, none⟩) p.rl p.rc, .int .i64 p.delay] 27 ∧ Box wr g6 #[.bool p.all, .bool p.none, .slice (some ⟨b, off, none⟩) p.rl p.rc, .int .i64 p.delay] 27)) (fun i _ => p.rl - (intOf i).toNat)
    case atStart => exact ⟨0, by omega, rfl, Lib.hid ⟨B1, x1, y1, u1, v1⟩⟩
    case round =>
      clear l1 c1 f1 l2 c2 f2 B1 x1 y1 u1 v1
      obtain ⟨k, hk, rfl, HB⟩ := hrel
      by_cases hlt : k < p.rl
      · have hd : decide ((k : Int) < (p.rl : Int)) = true := decide_eq_true (by omega)
        have hk0 : (0 : Int) ≤ (k : Int) := by omega
        have hk1 : (k : Int) < (p.rl : Int) := by omega
        obtain ⟨h1, h2, _⟩ := HC.out k (by omega)
        have k1 := (HB.out.1.drew.cell (p := ⟨b, off + k * 2, none⟩) (World.block_lt_of_cell? _ _ h1)).trans h1
        have k2 := (HB.out.1.drew.cell (p := ⟨b, off + k * 2 + 1, none⟩) (World.block_lt_of_cell? _ _ h2)).trans h2
        clear h1 h2
        obtain ⟨l1, c1, f1⟩ := HB.out.2.2.2.1.facts
        go_upto_region 7 with fail
        refine wp_region_last 10 (fun w' => Below w.heap.size w w' ∧ Box w' (w.heap.size) #[.int .i64 p.last, .int .i64 p.gap, .int .i64 p.exp, .int .i64 p.fails, .int .i64 p.state, .int .i64 p.till, .int .i64 p.retry, .int .i64 p.reset, .int .i64 p.flying, .int .i64 p.known, .bool p.all, .bool p.none, .slice (some ⟨b, off, none⟩) p.rl p.rc, .int .i64 p.delay] 29 ∧ Box w' (w.heap.size + 1) #[.int .i64 p.last, .int .i64 p.gap, .int .i64 p.exp, .int .i64 p.fails, .int .i64 p.state, .int .i64 p.till, .int .i64 p.retry, .int .i64 p.reset, .int .i64 p.flying, .int .i64 p.known, .bool p.all, .bool p.none, .slice (some ⟨b, off, none⟩) p.rl p.rc, .int .i64 p.delay] 29 ∧ Box w' g5 #[.bool p.all, .bool p.none, .slice (some ⟨b, off, none⟩) p.rl p.rc, .int .i64 p.delay] 27 ∧ Box w' g6 #[.bool p.all, .bool p.none, .slice (some ⟨b, off, none⟩) p.rl p.rc, .int .i64 p.delay] 27 ∧ w'.cell? ⟨b, off + k * 2, none⟩ = some (.bool (L k).1) ∧ w'.cell? ⟨b, off + k * 2 + 1, none⟩ = some (.string (L k).2)) (by kernel_rfl) (⟨HB.out.1.drew, HB.out.2.1.drew, HB.out.2.2.1.drew, HB.out.2.2.2.1.drew, HB.out.2.2.2.2.drew, k1, k2⟩) (fun hHeld hClosed => ?_)
        refine wpAnyL_take (i := 0) (v := ?_) rfl (by kernel_rfl) (by kernel_rfl) (by kernel_rfl) (by kernel_rfl) (fun _ _ _ h => h) (by kernel_rfl) (by assumption) (Or.inl ⟨by rfl, ?_⟩) (by assumption) (fun hClosed => ?_)
        rotate_left
        · intro wv hSw; go_simp; all_goals (with_reducible rfl)
        (try simp only [put_at, List.set])
        refine wpAnyL_take (i := 1) (v := ?_) rfl (by kernel_rfl) (by kernel_rfl) (by kernel_rfl) (by kernel_rfl) (fun _ _ _ h => h) (by kernel_rfl) (by assumption) (Or.inl ⟨by rfl, ?_⟩) (by assumption) (fun hClosed => ?_)
        rotate_left
        · intro wv hSw; obtain ⟨_, _, _, hx, hy, e1, e2⟩ := hSw; have cx := hx.cell; have cy := hy.cell; go_simp; all_goals (with_reducible rfl)
        (try simp only [put_at, List.set])
        refine wpAnyL_take (i := 2) (v := ?_) rfl (by kernel_rfl) (by kernel_rfl) (by kernel_rfl) (by kernel_rfl) (fun _ _ _ h => h) (by kernel_rfl) (by assumption) (Or.inl ⟨by rfl, ?_⟩) (by assumption) (fun hClosed => ?_)
        rotate_left
        · intro wv hSw; go_simp; all_goals (with_reducible rfl)
        (try simp only [put_at, List.set])
        refine wpAnyL_take (i := 3) (v := ?_) rfl (by kernel_rfl) (by kernel_rfl) (by kernel_rfl) (by kernel_rfl) (fun _ _ _ h => h) (by kernel_rfl) (by assumption) (Or.inl ⟨by rfl, ?_⟩) (by assumption) (fun hClosed => ?_)
        rotate_left
        · intro wv hSw; go_simp; all_goals (with_reducible rfl)
        (try simp only [put_at, List.set])
        refine wpAnyL_take (i := 4) (v := ?_) rfl (by kernel_rfl) (by kernel_rfl) (by kernel_rfl) (by kernel_rfl) (fun _ _ _ h => h) (by kernel_rfl) (by assumption) (Or.inl ⟨by rfl, ?_⟩) (by assumption) (fun hClosed => ?_)
        rotate_left
        · intro wv hSw; obtain ⟨_, _, _, hx, hy, e1, e2⟩ := hSw; have cx := hx.cell; have cy := hy.cell; go_simp; all_goals (with_reducible rfl)
        (try simp only [put_at, List.set])
        refine wpAnyL_take (i := 5) (v := ?_) rfl (by kernel_rfl) (by kernel_rfl) (by kernel_rfl) (by kernel_rfl) (fun _ _ _ h => h) (by kernel_rfl) (by assumption) (Or.inl ⟨by rfl, ?_⟩) (by assumption) (fun hClosed => ?_)
        rotate_left
        · intro wv hSw; go_simp; all_goals (with_reducible rfl)
        (try simp only [put_at, List.set])
        refine wpAnyL_take (i := 6) (v := ?_) rfl (by kernel_rfl) (by kernel_rfl) (by kernel_rfl) (by kernel_rfl) (fun _ _ _ h => h) (by kernel_rfl) (by assumption) (Or.inl ⟨by rfl, ?_⟩) (by assumption) (fun hClosed => ?_)
        rotate_left
        · intro wv hSw; obtain ⟨_, _, _, hx, hy, e1, e2⟩ := hSw; have cx := hx.cell; have cy := hy.cell; go_simp; all_goals (with_reducible rfl)
        (try simp only [put_at, List.set])
        refine wpAnyL_take (i := 7) (v := ?_) rfl (by kernel_rfl) (by kernel_rfl) (by kernel_rfl) (by kernel_rfl) (fun _ _ _ h => h) (by kernel_rfl) (by assumption) (Or.inl ⟨by rfl, ?_⟩) (by assumption) (fun hClosed => ?_)
        rotate_left
        · intro wv hSw; go_simp; all_goals (with_reducible rfl)
        (try simp only [put_at, List.set])
        refine wpAnyL_take (i := 8) (v := ?_) rfl (by kernel_rfl) (by kernel_rfl) (by kernel_rfl) (by kernel_rfl) (fun _ _ _ h => h) (by kernel_rfl) (by assumption) (Or.inl ⟨by rfl, ?_⟩) (by assumption) (fun hClosed => ?_)
        rotate_left
        · intro wv hSw; go_simp; all_goals (with_reducible rfl)
        (try simp only [put_at, List.set])
        refine wpAnyL_take (i := 9) (v := ?_) rfl (by kernel_rfl) (by kernel_rfl) (by kernel_rfl) (by kernel_rfl) (fun _ _ _ h => h) (by kernel_rfl) (by assumption) (Or.inl ⟨by rfl, ?_⟩) (by assumption) (fun hClosed => ?_)
        rotate_left
        · intro wv hSw; obtain ⟨_, _, _, hx, hy, e1, e2⟩ := hSw; have cx := hx.cell; have cy := hy.cell; go_simp; all_goals (with_reducible rfl)
        (try simp only [put_at, List.set])
        refine wpAnyL_last rfl (by kernel_rfl) (by kernel_rfl) (fun KK hK => ?_)
        go_simp
        refine hK.out _ _ ?_
        (try simp only [put_at, List.set])
        go_wp2_with fail
        go_roundw
        case rel => exact ⟨k + 1, by omega, by go_num, Lib.hid ⟨hHeld.1, hHeld.2.1, hHeld.2.2.1, hHeld.2.2.2.1, hHeld.2.2.2.2.1⟩⟩
        case measure => simp [intOf]; omega
      · have hd : decide ((k : Int) < (p.rl : Int)) = false := decide_eq_false (by omega)
        obtain rfl : k = p.rl := by omega
        obtain ⟨l1, c1, f1⟩ := HB.out.2.2.2.1.facts
        obtain ⟨l2, c2, f2⟩ := HB.out.2.1.facts
        obtain ⟨l3, c3, f3⟩ := HB.out.2.2.1.facts
        have HB1 := HB.out.1
        go_wp2_with fail
        go_ret
        exact ⟨rfl, HB1⟩
set_option maxRecDepth 100000 in
set_option maxHeartbeats 40000000 in
theorem same_nil (p : Pol) (w : World) (h0 : p.rl = 0) : Calls Try.prog 20 #[.agg #[.int .i64 p.last, .int .i64 p.gap, .int .i64 p.exp, .int .i64 p.fails, .int .i64 p.state, .int .i64 p.till, .int .i64 p.retry, .int .i64 p.reset, .int .i64 p.flying, .int .i64 p.known, .bool p.all, .bool p.none, .slice p.ra p.rl p.rc, .int .i64 p.delay], .agg #[.int .i64 p.last, .int .i64 p.gap, .int .i64 p.exp, .int .i64 p.fails, .int .i64 p.state, .int .i64 p.till, .int .i64 p.retry, .int .i64 p.reset, .int .i64 p.flying, .int .i64 p.known, .bool p.all, .bool p.none, .slice p.ra p.rl p.rc, .int .i64 p.delay]] w fun e w' => e = .returned (.bool true) ∧ Below w.heap.size w w' := by
  have hn := rule_eq
  have hl : p.rl ≤ 100 := by omega
  have H0 := Lib.hid h0
  clear h0
  have x0 := (Box.new w #[.int .i64 p.last, .int .i64 p.gap, .int .i64 p.exp, .int .i64 p.fails, .int .i64 p.state, .int .i64 p.till, .int .i64 p.retry, .int .i64 p.reset, .int .i64 p.flying, .int .i64 p.known, .bool p.all, .bool p.none, .slice p.ra p.rl p.rc, .int .i64 p.delay] 29).alloc (.cells #[.int .i64 p.last, .int .i64 p.gap, .int .i64 p.exp, .int .i64 p.fails, .int .i64 p.state, .int .i64 p.till, .int .i64 p.retry, .int .i64 p.reset, .int .i64 p.flying, .int .i64 p.known, .bool p.all, .bool p.none, .slice p.ra p.rl p.rc, .int .i64 p.delay] 29)
  have y0 := Box.new (w.alloc (.cells #[.int .i64 p.last, .int .i64 p.gap, .int .i64 p.exp, .int .i64 p.fails, .int .i64 p.state, .int .i64 p.till, .int .i64 p.retry, .int .i64 p.reset, .int .i64 p.flying, .int .i64 p.known, .bool p.all, .bool p.none, .slice p.ra p.rl p.rc, .int .i64 p.delay] 29)) #[.int .i64 p.last, .int .i64 p.gap, .int .i64 p.exp, .int .i64 p.fails, .int .i64 p.state, .int .i64 p.till, .int .i64 p.retry, .int .i64 p.reset, .int .i64 p.flying, .int .i64 p.known, .bool p.all, .bool p.none, .slice p.ra p.rl p.rc, .int .i64 p.delay] 29
  have B0 := ((Below.refl w.heap.size w).alloc (Nat.le_refl _) (.cells #[.int .i64 p.last, .int .i64 p.gap, .int .i64 p.exp, .int .i64 p.fails, .int .i64 p.state, .int .i64 p.till, .int .i64 p.retry, .int .i64 p.reset, .int .i64 p.flying, .int .i64 p.known, .bool p.all, .bool p.none, .slice p.ra p.rl p.rc, .int .i64 p.delay] 29)).alloc (by simp) (.cells #[.int .i64 p.last, .int .i64 p.gap, .int .i64 p.exp, .int .i64 p.fails, .int .i64 p.state, .int .i64 p.till, .int .i64 p.retry, .int .i64 p.reset, .int .i64 p.flying, .int .i64 p.known, .bool p.all, .bool p.none, .slice p.ra p.rl p.rc, .int .i64 p.delay] 29)
  rw [World.size_alloc] at y0
  go_enter Try.func20, Try.ntmps20
  go_upto_region 1 with fail
  generalize ((w.alloc (.cells #[.int .i64 p.last, .int .i64 p.gap, .int .i64 p.exp, .int .i64 p.fails, .int .i64 p.state, .int .i64 p.till, .int .i64 p.retry, .int .i64 p.reset, .int .i64 p.flying, .int .i64 p.known, .bool p.all, .bool p.none, .slice p.ra p.rl p.rc, .int .i64 p.delay] 29)).alloc (.cells #[.int .i64 p.last, .int .i64 p.gap, .int .i64 p.exp, .int .i64 p.fails, .int .i64 p.state, .int .i64 p.till, .int .i64 p.retry, .int .i64 p.reset, .int .i64 p.flying, .int .i64 p.known, .bool p.all, .bool p.none, .slice p.ra p.rl p.rc, .int .i64 p.delay] 29)) = wz at *
  have q0 := y0.lt
  go_cut [5, 6] (fun s5 s6 wx => ∃ g5 g6 : Nat, s5 = .pointer (some ⟨g5, 0, none⟩) ∧ s6 = .pointer (some ⟨g6, 0, none⟩) ∧ Below w.heap.size w wx ∧ Box wx w.heap.size #[.int .i64 p.last, .int .i64 p.gap, .int .i64 p.exp, .int .i64 p.fails, .int .i64 p.state, .int .i64 p.till, .int .i64 p.retry, .int .i64 p.reset, .int .i64 p.flying, .int .i64 p.known, .bool p.all, .bool p.none, .slice p.ra p.rl p.rc, .int .i64 p.delay] 29 ∧ Box wx (w.heap.size + 1) #[.int .i64 p.last, .int .i64 p.gap, .int .i64 p.exp, .int .i64 p.fails, .int .i64 p.state, .int .i64 p.till, .int .i64 p.retry, .int .i64 p.reset, .int .i64 p.flying, .int .i64 p.known, .bool p.all, .bool p.none, .slice p.ra p.rl p.rc, .int .i64 p.delay] 29 ∧ Box wx g5 #[.bool p.all, .bool p.none, .slice p.ra p.rl p.rc, .int .i64 p.delay] 27 ∧ Box wx g6 #[.bool p.all, .bool p.none, .slice p.ra p.rl p.rc, .int .i64 p.delay] 27)
  case first =>
    refine wp_region_last 7 (fun w' => Below w.heap.size w w' ∧ Box w' (w.heap.size) #[.int .i64 p.last, .int .i64 p.gap, .int .i64 p.exp, .int .i64 p.fails, .int .i64 p.state, .int .i64 p.till, .int .i64 p.retry, .int .i64 p.reset, .int .i64 p.flying, .int .i64 p.known, .bool p.all, .bool p.none, .slice p.ra p.rl p.rc, .int .i64 p.delay] 29 ∧ Box w' (w.heap.size + 1) #[.int .i64 p.last, .int .i64 p.gap, .int .i64 p.exp, .int .i64 p.fails, .int .i64 p.state, .int .i64 p.till, .int .i64 p.retry, .int .i64 p.reset, .int .i64 p.flying, .int .i64 p.known, .bool p.all, .bool p.none, .slice p.ra p.rl p.rc, .int .i64 p.delay] 29) (by kernel_rfl) (⟨B0.drew, x0.drew, y0.drew⟩) (fun hHeld hClosed => ?_)
    refine wpAnyL_take (i := 0) (v := ?_) rfl (by kernel_rfl) (by kernel_rfl) (by kernel_rfl) (by kernel_rfl) (fun _ _ _ h => h) (by kernel_rfl) (by assumption) (Or.inl ⟨by rfl, ?_⟩) (by assumption) (fun hClosed => ?_)
    rotate_left
    · intro wv hSw; go_simp; all_goals (with_reducible rfl)
    (try simp only [put_at, List.set])
    refine wpAnyL_take (i := 1) (v := ?_) rfl (by kernel_rfl) (by kernel_rfl) (by kernel_rfl) (by kernel_rfl) (fun _ _ _ h => h) (by kernel_rfl) (by assumption) (Or.inl ⟨by rfl, ?_⟩) (by assumption) (fun hClosed => ?_)
    rotate_left
    · intro wv hSw; obtain ⟨_, hx, hy⟩ := hSw; have cx := hx.cell; have cy := hy.cell; go_simp; all_goals (with_reducible rfl)
    (try simp only [put_at, List.set])
    refine wpAnyL_take (i := 2) (v := ?_) rfl (by kernel_rfl) (by kernel_rfl) (by kernel_rfl) (by kernel_rfl) (fun _ _ _ h => h) (by kernel_rfl) (by assumption) (Or.inl ⟨by rfl, ?_⟩) (by assumption) (fun hClosed => ?_)
    rotate_left
    · intro wv hSw; go_simp; all_goals (with_reducible rfl)
    (try simp only [put_at, List.set])
    refine wpAnyL_take (i := 3) (v := ?_) rfl (by kernel_rfl) (by kernel_rfl) (by kernel_rfl) (by kernel_rfl) (fun _ _ _ h => h) (by kernel_rfl) (by assumption) (Or.inl ⟨by rfl, ?_⟩) (by assumption) (fun hClosed => ?_)
    rotate_left
    · intro wv hSw; obtain ⟨_, hx, hy⟩ := hSw; have cx := hx.cell; have cy := hy.cell; go_simp; all_goals (with_reducible rfl)
    (try simp only [put_at, List.set])
    refine wpAnyL_two (i := 4) (j := 5) rfl rfl (by kernel_rfl) (by kernel_rfl) (by kernel_rfl) (by assumption) (fun KK hK => ?_) (fun KK hK => ?_)
    · go_simp
      refine hK.out _ _ ?_ (fun hClosed hHeld => ?_)
      · exact ⟨hHeld.1.alloc hHeld.1.size _, hHeld.2.1.alloc _, hHeld.2.2.alloc _⟩
      clear hK KK
      (try simp only [put_at, List.set])
      refine last_forget (fun w' => (Below w.heap.size w w' ∧ Box w' (w.heap.size) #[.int .i64 p.last, .int .i64 p.gap, .int .i64 p.exp, .int .i64 p.fails, .int .i64 p.state, .int .i64 p.till, .int .i64 p.retry, .int .i64 p.reset, .int .i64 p.flying, .int .i64 p.known, .bool p.all, .bool p.none, .slice p.ra p.rl p.rc, .int .i64 p.delay] 29 ∧ Box w' (w.heap.size + 1) #[.int .i64 p.last, .int .i64 p.gap, .int .i64 p.exp, .int .i64 p.fails, .int .i64 p.state, .int .i64 p.till, .int .i64 p.retry, .int .i64 p.reset, .int .i64 p.flying, .int .i64 p.known, .bool p.all, .bool p.none, .slice p.ra p.rl p.rc, .int .i64 p.delay] 29) ∧ Box w' wz.heap.size #[.bool false, .bool false, .slice .none 0 0, .int .i64 0] 27) ⟨hHeld, Box.new _ _ _⟩ ?_
      rintro wa ⟨hHeld, ba⟩
      have qa := ba.lt
      refine wpAnyL_one (i := 5) rfl (by kernel_rfl) (by kernel_rfl) (by assumption) (fun KK hK => ?_)
      go_simp
      refine hK.out _ _ ?_ (fun hClosed hHeld => ?_)
      · exact ⟨hHeld.1.alloc hHeld.1.size _, hHeld.2.1.alloc _, hHeld.2.2.alloc _⟩
      clear hK KK
      (try simp only [put_at, List.set])
      refine last_forget (fun w' => (Below w.heap.size w w' ∧ Box w' (w.heap.size) #[.int .i64 p.last, .int .i64 p.gap, .int .i64 p.exp, .int .i64 p.fails, .int .i64 p.state, .int .i64 p.till, .int .i64 p.retry, .int .i64 p.reset, .int .i64 p.flying, .int .i64 p.known, .bool p.all, .bool p.none, .slice p.ra p.rl p.rc, .int .i64 p.delay] 29 ∧ Box w' (w.heap.size + 1) #[.int .i64 p.last, .int .i64 p.gap, .int .i64 p.exp, .int .i64 p.fails, .int .i64 p.state, .int .i64 p.till, .int .i64 p.retry, .int .i64 p.reset, .int .i64 p.flying, .int .i64 p.known, .bool p.all, .bool p.none, .slice p.ra p.rl p.rc, .int .i64 p.delay] 29) ∧ Box w' wz.heap.size #[.bool false, .bool false, .slice .none 0 0, .int .i64 0] 27 ∧ Box w' wa.heap.size #[.bool false, .bool false, .slice .none 0 0, .int .i64 0] 27) ⟨hHeld, ba.alloc _, Box.new _ _ _⟩ ?_
      rintro wb ⟨hHeld, b1, b2⟩
      refine wpAnyL_one (i := 6) rfl (by kernel_rfl) (by kernel_rfl) (by assumption) (fun KK hK => ?_)
      obtain ⟨l1, c1, f1⟩ := b1.facts
      go_simp
      refine hK.out _ _ ?_ (fun hClosed hHeld => ?_)
      · exact ⟨((((hHeld.1.setCell (p := ⟨wz.heap.size, 0, none⟩) (by dsimp only; omega) (.bool p.all)).setCell (p := ⟨wz.heap.size, 1, none⟩) (by dsimp only; omega) (.bool p.none)).setCell (p := ⟨wz.heap.size, 2, none⟩) (by dsimp only; omega) (.slice p.ra p.rl p.rc)).setCell (p := ⟨wz.heap.size, 3, none⟩) (by dsimp only; omega) (.int .i64 p.delay)), ((((hHeld.2.1.other (a := ⟨wz.heap.size, 0, none⟩) (by dsimp only; omega) (.bool p.all)).other (a := ⟨wz.heap.size, 1, none⟩) (by dsimp only; omega) (.bool p.none)).other (a := ⟨wz.heap.size, 2, none⟩) (by dsimp only; omega) (.slice p.ra p.rl p.rc)).other (a := ⟨wz.heap.size, 3, none⟩) (by dsimp only; omega) (.int .i64 p.delay)), ((((hHeld.2.2.other (a := ⟨wz.heap.size, 0, none⟩) (by dsimp only; omega) (.bool p.all)).other (a := ⟨wz.heap.size, 1, none⟩) (by dsimp only; omega) (.bool p.none)).other (a := ⟨wz.heap.size, 2, none⟩) (by dsimp only; omega) (.slice p.ra p.rl p.rc)).other (a := ⟨wz.heap.size, 3, none⟩) (by dsimp only; omega) (.int .i64 p.delay))⟩
      clear hK KK
      (try simp only [put_at, List.set])
      have b3 := ((((b1.set 0 (.bool p.all)).set 1 (.bool p.none)).set 2 (.slice p.ra p.rl p.rc)).set 3 (.int .i64 p.delay))
      simp only [List.setIfInBounds_toArray, List.set_cons_succ, List.set_cons_zero] at b3
      refine last_forget (fun w' => (Below w.heap.size w w' ∧ Box w' (w.heap.size) #[.int .i64 p.last, .int .i64 p.gap, .int .i64 p.exp, .int .i64 p.fails, .int .i64 p.state, .int .i64 p.till, .int .i64 p.retry, .int .i64 p.reset, .int .i64 p.flying, .int .i64 p.known, .bool p.all, .bool p.none, .slice p.ra p.rl p.rc, .int .i64 p.delay] 29 ∧ Box w' (w.heap.size + 1) #[.int .i64 p.last, .int .i64 p.gap, .int .i64 p.exp, .int .i64 p.fails, .int .i64 p.state, .int .i64 p.till, .int .i64 p.retry, .int .i64 p.reset, .int .i64 p.flying, .int .i64 p.known, .bool p.all, .bool p.none, .slice p.ra p.rl p.rc, .int .i64 p.delay] 29) ∧ Box w' (wz.heap.size) #[.bool p.all, .bool p.none, .slice p.ra p.rl p.rc, .int .i64 p.delay] 27 ∧ Box w' (wa.heap.size) #[.bool false, .bool false, .slice .none 0 0, .int .i64 0] 27) ⟨hHeld, b3, ((((b2.other (a := ⟨wz.heap.size, 0, none⟩) (by dsimp only; omega) (.bool p.all)).other (a := ⟨wz.heap.size, 1, none⟩) (by dsimp only; omega) (.bool p.none)).other (a := ⟨wz.heap.size, 2, none⟩) (by dsimp only; omega) (.slice p.ra p.rl p.rc)).other (a := ⟨wz.heap.size, 3, none⟩) (by dsimp only; omega) (.int .i64 p.delay))⟩ ?_
      clear b1 b2 b3 l1 c1 f1
      rintro wd ⟨hHeld, b5, b6⟩
      refine wpAnyL_last rfl (by kernel_rfl) (by kernel_rfl) (fun KK hK => ?_)
      obtain ⟨l1, c1, f1⟩ := b6.facts
      go_simp
      refine hK.out _ _ ?_
      (try simp only [put_at, List.set])
      go_wp2_with fail
      go_meet
      exact ⟨wz.heap.size, wa.heap.size, rfl, rfl, ((((hHeld.1.setCell (p := ⟨wa.heap.size, 0, none⟩) (by dsimp only; omega) (.bool p.all)).setCell (p := ⟨wa.heap.size, 1, none⟩) (by dsimp only; omega) (.bool p.none)).setCell (p := ⟨wa.heap.size, 2, none⟩) (by dsimp only; omega) (.slice p.ra p.rl p.rc)).setCell (p := ⟨wa.heap.size, 3, none⟩) (by dsimp only; omega) (.int .i64 p.delay)), ((((hHeld.2.1.other (a := ⟨wa.heap.size, 0, none⟩) (by dsimp only; omega) (.bool p.all)).other (a := ⟨wa.heap.size, 1, none⟩) (by dsimp only; omega) (.bool p.none)).other (a := ⟨wa.heap.size, 2, none⟩) (by dsimp only; omega) (.slice p.ra p.rl p.rc)).other (a := ⟨wa.heap.size, 3, none⟩) (by dsimp only; omega) (.int .i64 p.delay)), ((((hHeld.2.2.other (a := ⟨wa.heap.size, 0, none⟩) (by dsimp only; omega) (.bool p.all)).other (a := ⟨wa.heap.size, 1, none⟩) (by dsimp only; omega) (.bool p.none)).other (a := ⟨wa.heap.size, 2, none⟩) (by dsimp only; omega) (.slice p.ra p.rl p.rc)).other (a := ⟨wa.heap.size, 3, none⟩) (by dsimp only; omega) (.int .i64 p.delay)), ((((b5.other (a := ⟨wa.heap.size, 0, none⟩) (by dsimp only; omega) (.bool p.all)).other (a := ⟨wa.heap.size, 1, none⟩) (by dsimp only; omega) (.bool p.none)).other (a := ⟨wa.heap.size, 2, none⟩) (by dsimp only; omega) (.slice p.ra p.rl p.rc)).other (a := ⟨wa.heap.size, 3, none⟩) (by dsimp only; omega) (.int .i64 p.delay)), (by have := ((((b6.set 0 (.bool p.all)).set 1 (.bool p.none)).set 2 (.slice p.ra p.rl p.rc)).set 3 (.int .i64 p.delay)); simp only [List.setIfInBounds_toArray, List.set_cons_succ, List.set_cons_zero] at this; exact this)⟩
    · go_simp
      refine hK.out _ _ ?_ (fun hClosed hHeld => ?_)
      · exact ⟨hHeld.1.alloc hHeld.1.size _, hHeld.2.1.alloc _, hHeld.2.2.alloc _⟩
      clear hK KK
      (try simp only [put_at, List.set])
      refine last_forget (fun w' => (Below w.heap.size w w' ∧ Box w' (w.heap.size) #[.int .i64 p.last, .int .i64 p.gap, .int .i64 p.exp, .int .i64 p.fails, .int .i64 p.state, .int .i64 p.till, .int .i64 p.retry, .int .i64 p.reset, .int .i64 p.flying, .int .i64 p.known, .bool p.all, .bool p.none, .slice p.ra p.rl p.rc, .int .i64 p.delay] 29 ∧ Box w' (w.heap.size + 1) #[.int .i64 p.last, .int .i64 p.gap, .int .i64 p.exp, .int .i64 p.fails, .int .i64 p.state, .int .i64 p.till, .int .i64 p.retry, .int .i64 p.reset, .int .i64 p.flying, .int .i64 p.known, .bool p.all, .bool p.none, .slice p.ra p.rl p.rc, .int .i64 p.delay] 29) ∧ Box w' wz.heap.size #[.bool false, .bool false, .slice .none 0 0, .int .i64 0] 27) ⟨hHeld, Box.new _ _ _⟩ ?_
      rintro wa ⟨hHeld, ba⟩
      have qa := ba.lt
      refine wpAnyL_one (i := 4) rfl (by kernel_rfl) (by kernel_rfl) (by assumption) (fun KK hK => ?_)
      go_simp
      refine hK.out _ _ ?_ (fun hClosed hHeld => ?_)
      · exact ⟨hHeld.1.alloc hHeld.1.size _, hHeld.2.1.alloc _, hHeld.2.2.alloc _⟩
      clear hK KK
      (try simp only [put_at, List.set])
      refine last_forget (fun w' => (Below w.heap.size w w' ∧ Box w' (w.heap.size) #[.int .i64 p.last, .int .i64 p.gap, .int .i64 p.exp, .int .i64 p.fails, .int .i64 p.state, .int .i64 p.till, .int .i64 p.retry, .int .i64 p.reset, .int .i64 p.flying, .int .i64 p.known, .bool p.all, .bool p.none, .slice p.ra p.rl p.rc, .int .i64 p.delay] 29 ∧ Box w' (w.heap.size + 1) #[.int .i64 p.last, .int .i64 p.gap, .int .i64 p.exp, .int .i64 p.fails, .int .i64 p.state, .int .i64 p.till, .int .i64 p.retry, .int .i64 p.reset, .int .i64 p.flying, .int .i64 p.known, .bool p.all, .bool p.none, .slice p.ra p.rl p.rc, .int .i64 p.delay] 29) ∧ Box w' wz.heap.size #[.bool false, .bool false, .slice .none 0 0, .int .i64 0] 27 ∧ Box w' wa.heap.size #[.bool false, .bool false, .slice .none 0 0, .int .i64 0] 27) ⟨hHeld, ba.alloc _, Box.new _ _ _⟩ ?_
      rintro wb ⟨hHeld, b1, b2⟩
      refine wpAnyL_one (i := 6) rfl (by kernel_rfl) (by kernel_rfl) (by assumption) (fun KK hK => ?_)
      obtain ⟨l1, c1, f1⟩ := b2.facts
      go_simp
      refine hK.out _ _ ?_ (fun hClosed hHeld => ?_)
      · exact ⟨((((hHeld.1.setCell (p := ⟨wa.heap.size, 0, none⟩) (by dsimp only; omega) (.bool p.all)).setCell (p := ⟨wa.heap.size, 1, none⟩) (by dsimp only; omega) (.bool p.none)).setCell (p := ⟨wa.heap.size, 2, none⟩) (by dsimp only; omega) (.slice p.ra p.rl p.rc)).setCell (p := ⟨wa.heap.size, 3, none⟩) (by dsimp only; omega) (.int .i64 p.delay)), ((((hHeld.2.1.other (a := ⟨wa.heap.size, 0, none⟩) (by dsimp only; omega) (.bool p.all)).other (a := ⟨wa.heap.size, 1, none⟩) (by dsimp only; omega) (.bool p.none)).other (a := ⟨wa.heap.size, 2, none⟩) (by dsimp only; omega) (.slice p.ra p.rl p.rc)).other (a := ⟨wa.heap.size, 3, none⟩) (by dsimp only; omega) (.int .i64 p.delay)), ((((hHeld.2.2.other (a := ⟨wa.heap.size, 0, none⟩) (by dsimp only; omega) (.bool p.all)).other (a := ⟨wa.heap.size, 1, none⟩) (by dsimp only; omega) (.bool p.none)).other (a := ⟨wa.heap.size, 2, none⟩) (by dsimp only; omega) (.slice p.ra p.rl p.rc)).other (a := ⟨wa.heap.size, 3, none⟩) (by dsimp only; omega) (.int .i64 p.delay))⟩
      clear hK KK
      (try simp only [put_at, List.set])
      have b3 := ((((b2.set 0 (.bool p.all)).set 1 (.bool p.none)).set 2 (.slice p.ra p.rl p.rc)).set 3 (.int .i64 p.delay))
      simp only [List.setIfInBounds_toArray, List.set_cons_succ, List.set_cons_zero] at b3
      refine last_forget (fun w' => (Below w.heap.size w w' ∧ Box w' (w.heap.size) #[.int .i64 p.last, .int .i64 p.gap, .int .i64 p.exp, .int .i64 p.fails, .int .i64 p.state, .int .i64 p.till, .int .i64 p.retry, .int .i64 p.reset, .int .i64 p.flying, .int .i64 p.known, .bool p.all, .bool p.none, .slice p.ra p.rl p.rc, .int .i64 p.delay] 29 ∧ Box w' (w.heap.size + 1) #[.int .i64 p.last, .int .i64 p.gap, .int .i64 p.exp, .int .i64 p.fails, .int .i64 p.state, .int .i64 p.till, .int .i64 p.retry, .int .i64 p.reset, .int .i64 p.flying, .int .i64 p.known, .bool p.all, .bool p.none, .slice p.ra p.rl p.rc, .int .i64 p.delay] 29) ∧ Box w' (wa.heap.size) #[.bool p.all, .bool p.none, .slice p.ra p.rl p.rc, .int .i64 p.delay] 27 ∧ Box w' (wz.heap.size) #[.bool false, .bool false, .slice .none 0 0, .int .i64 0] 27) ⟨hHeld, b3, ((((b1.other (a := ⟨wa.heap.size, 0, none⟩) (by dsimp only; omega) (.bool p.all)).other (a := ⟨wa.heap.size, 1, none⟩) (by dsimp only; omega) (.bool p.none)).other (a := ⟨wa.heap.size, 2, none⟩) (by dsimp only; omega) (.slice p.ra p.rl p.rc)).other (a := ⟨wa.heap.size, 3, none⟩) (by dsimp only; omega) (.int .i64 p.delay))⟩ ?_
      clear b1 b2 b3 l1 c1 f1
      rintro wd ⟨hHeld, b5, b6⟩
      refine wpAnyL_last rfl (by kernel_rfl) (by kernel_rfl) (fun KK hK => ?_)
      obtain ⟨l1, c1, f1⟩ := b6.facts
      go_simp
      refine hK.out _ _ ?_
      (try simp only [put_at, List.set])
      go_wp2_with fail
      go_meet
      exact ⟨wa.heap.size, wz.heap.size, rfl, rfl, ((((hHeld.1.setCell (p := ⟨wz.heap.size, 0, none⟩) (by dsimp only; omega) (.bool p.all)).setCell (p := ⟨wz.heap.size, 1, none⟩) (by dsimp only; omega) (.bool p.none)).setCell (p := ⟨wz.heap.size, 2, none⟩) (by dsimp only; omega) (.slice p.ra p.rl p.rc)).setCell (p := ⟨wz.heap.size, 3, none⟩) (by dsimp only; omega) (.int .i64 p.delay)), ((((hHeld.2.1.other (a := ⟨wz.heap.size, 0, none⟩) (by dsimp only; omega) (.bool p.all)).other (a := ⟨wz.heap.size, 1, none⟩) (by dsimp only; omega) (.bool p.none)).other (a := ⟨wz.heap.size, 2, none⟩) (by dsimp only; omega) (.slice p.ra p.rl p.rc)).other (a := ⟨wz.heap.size, 3, none⟩) (by dsimp only; omega) (.int .i64 p.delay)), ((((hHeld.2.2.other (a := ⟨wz.heap.size, 0, none⟩) (by dsimp only; omega) (.bool p.all)).other (a := ⟨wz.heap.size, 1, none⟩) (by dsimp only; omega) (.bool p.none)).other (a := ⟨wz.heap.size, 2, none⟩) (by dsimp only; omega) (.slice p.ra p.rl p.rc)).other (a := ⟨wz.heap.size, 3, none⟩) (by dsimp only; omega) (.int .i64 p.delay)), ((((b5.other (a := ⟨wz.heap.size, 0, none⟩) (by dsimp only; omega) (.bool p.all)).other (a := ⟨wz.heap.size, 1, none⟩) (by dsimp only; omega) (.bool p.none)).other (a := ⟨wz.heap.size, 2, none⟩) (by dsimp only; omega) (.slice p.ra p.rl p.rc)).other (a := ⟨wz.heap.size, 3, none⟩) (by dsimp only; omega) (.int .i64 p.delay)), (by have := ((((b6.set 0 (.bool p.all)).set 1 (.bool p.none)).set 2 (.slice p.ra p.rl p.rc)).set 3 (.int .i64 p.delay)); simp only [List.setIfInBounds_toArray, List.set_cons_succ, List.set_cons_zero] at this; exact this)⟩
  case rest =>
    obtain ⟨g5, g6, rfl, rfl, B1, x1, y1, u1, v1⟩ := hcut
    clear x0 y0 B0 q0
    obtain ⟨l1, c1, f1⟩ := u1.facts
    obtain ⟨l2, c2, f2⟩ := v1.facts
    go_wp2_with fail
    go_loopw [7] (fun i wr => ∃ k : Nat, k ≤ p.rl ∧ i = .int .i64 k ∧ Hid (Below w.heap.size w wr ∧ Box wr w.heap.size #[.int .i64 p.last, .int .i64 p.gap, .int .i64 p.exp, .int .i64 p.fails, .int .i64 p.state, .int .i64 p.till, .int .i64 p.retry, .int .i64 p.reset, .int .i64 p.flying, .int .i64 p.known, .bool p.all, .bool p.none, .slice p.ra p.rl p.rc, .int .i64 p.delay] 29 ∧ Box wr (w.heap.size + 1) #[.int .i64 p.last, .int .i64 p.gap, .int .i64 p.exp, .int .i64 p.fails, .int .i64 p.state, .int .i64 p.till, .int .i64 p.retry, .int .i64 p.reset, .int .i64 p.flying, .int .i64 p.known, .bool p.all, .bool p.none, .slice p.ra p.rl p.rc, .int .i64 p.delay] 29 ∧ Box wr g5 #[.bool p.all, .bool p.none, .slice p.ra p.rl p.rc, .int .i64 p.delay] 27 ∧ Box wr g6 #[.bool p.all, .bool p.none, .slice p.ra p.rl p.rc, .int .i64 p.delay] 27)) (fun i _ => p.rl - (intOf i).toNat)
    case atStart => exact ⟨0, by omega, rfl, Lib.hid ⟨B1, x1, y1, u1, v1⟩⟩
    case round =>
      clear l1 c1 f1 l2 c2 f2 B1 x1 y1 u1 v1
      obtain ⟨k, hk, rfl, HB⟩ := hrel
      by_cases hlt : k < p.rl
      · exact absurd hlt (by have := H0.out; omega)
      · have hd : decide ((k : Int) < (p.rl : Int)) = false := decide_eq_false (by omega)
        obtain rfl : k = p.rl := by omega
        obtain ⟨l1, c1, f1⟩ := HB.out.2.2.2.1.facts
        obtain ⟨l2, c2, f2⟩ := HB.out.2.1.facts
        obtain ⟨l3, c3, f3⟩ := HB.out.2.2.1.facts
        have HB1 := HB.out.1
        go_wp2_with fail
        go_ret
        exact ⟨rfl, HB1⟩
theorem same_self (p : Pol) (a' : Option Addr) (L : Nat → Bool × ByteArray) (w : World) (hr : IsRules w a' p.rl p.rc L) (ha : a' = p.ra ∨ p.rc = 0) (hl : p.rl ≤ 100) : Calls Try.prog 20 #[.agg #[.int .i64 p.last, .int .i64 p.gap, .int .i64 p.exp, .int .i64 p.fails, .int .i64 p.state, .int .i64 p.till, .int .i64 p.retry, .int .i64 p.reset, .int .i64 p.flying, .int .i64 p.known, .bool p.all, .bool p.none, .slice p.ra p.rl p.rc, .int .i64 p.delay], .agg #[.int .i64 p.last, .int .i64 p.gap, .int .i64 p.exp, .int .i64 p.fails, .int .i64 p.state, .int .i64 p.till, .int .i64 p.retry, .int .i64 p.reset, .int .i64 p.flying, .int .i64 p.known, .bool p.all, .bool p.none, .slice p.ra p.rl p.rc, .int .i64 p.delay]] w fun e w' => e = .returned (.bool true) ∧ Below w.heap.size w w' := by
  rcases hr with ⟨_, h0, _⟩ | ⟨b, off, ha', hl', hm, hc⟩
  · exact same_nil p w h0
  · by_cases h0 : p.rl = 0
    · exact same_nil p w h0
    · have hra : p.ra = some ⟨b, off, none⟩ := by
        rcases ha with h | h
        · rw [← h]; exact ha'
        · omega
      rw [hra]
      exact same_some p b off L w hc hl' hl
end Go.Proofs.Ytonfbkffngplcaa
