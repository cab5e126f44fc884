/- Layer 24: what the laws ask of Step, Line and Read; the fixed fact. -/
import Derived.Test.YtbfdklmljcdonaaDoorTlSiz
import Derived.Test.YtbfdklmljcdonaaDoorTlLaw
namespace Go.Proofs.YtbfdklmljcdonaaDoor
open Go Go.RowKit
set_option linter.unusedVariables false
set_option linter.unusedSimpArgs false
set_option maxRecDepth 10000

theorem step_as (s : ByteArray) (x : Stp) (h : stepS (bl s) = some (spOf x)) (hs : s.size ≤ 3000000) (w : World) (hT : TabT w) :
    Calls Tryd.prog 13 #[.string s] w fun e w' => ∃ ha hc, e = .returned (.tuple #[.agg (stA x.k x.a x.b x.c x.t ha x.hs.length hc), .int .i64 0]) ∧ Own w' w.heap.size 36 2 ha x.hs.length hc (hdV x.hs) ∧ Below w.heap.size w w' := by
  refine (step_line_at s hs w hT).mono ?_
  rintro e w' ⟨hb, ⟨hn, _⟩ | ⟨y, ha, n, hc, hy, he, hl, ho⟩⟩
  · rw [h] at hn
    cases hn
  · rw [h] at hy
    obtain rfl := sp_eq.1 (Option.some.inj hy)
    subst hl
    exact ⟨ha, hc, he, ho, hb⟩
theorem step_no (s : ByteArray) (h : stepS (bl s) = none) (hs : s.size ≤ 3000000) (w : World) (hT : TabT w) :
    Calls Tryd.prog 13 #[.string s] w fun e w' => e = .returned (.tuple #[.agg #[.int .i64 0, .int .i64 0, .int .i64 0, .int .i64 0, .string ByteArray.empty, .slice none 0 0], .int .i64 8]) ∧ Below w.heap.size w w' := by
  refine (step_line_at s hs w hT).mono ?_
  rintro e w' ⟨hb, ⟨_, he⟩ | ⟨y, ha, n, hc, hy, _⟩⟩
  · exact ⟨he, hb⟩
  · rw [h] at hy
    cases hy
theorem line_as (x : Stp) (l : ByteArray) (h : lineS (spOf x) = some (bl l)) (hz : SzS x) (hrg : RgS x) (ha : Option Addr) (n hc : Nat) (hn : x.hs.length = n) (w : World) (hr : RdC w ha (hdV x.hs)) (hT : TabT w) :
    Calls Tryd.prog 5 #[.agg (stA x.k x.a x.b x.c x.t ha n hc)] w fun e w' => e = .returned (.tuple #[.string l, .int .i64 0]) ∧ Below w.heap.size w w' := by
  refine (line_at x hz hrg ha n hc hn w hr hT).mono ?_
  rintro e w' ⟨hb, ⟨hx, _⟩ | ⟨l', hl, he⟩⟩
  · rw [h] at hx
    cases hx
  · rw [h] at hl
    obtain rfl := bl_eq (Option.some.inj hl)
    exact ⟨he, hb⟩
theorem line_no_as (x : Stp) (h : lineS (spOf x) = none) (hz : SzS x) (hrg : RgS x) (ha : Option Addr) (n hc : Nat) (hn : x.hs.length = n) (w : World) (hr : RdC w ha (hdV x.hs)) (hT : TabT w) :
    Calls Tryd.prog 5 #[.agg (stA x.k x.a x.b x.c x.t ha n hc)] w fun e w' => e = .returned (.tuple #[.string ByteArray.empty, .int .i64 1]) ∧ Below w.heap.size w w' := by
  refine (line_at x hz hrg ha n hc hn w hr hT).mono ?_
  rintro e w' ⟨hb, ⟨_, he⟩ | ⟨l', hl, _⟩⟩
  · exact ⟨he, hb⟩
  · rw [h] at hl
    cases hl
theorem hdr_eq (a b c d : ByteArray) (w : World) : (binOp .eql 36 (.agg #[.string a, .string b]) (.agg #[.string c, .string d])).run Tryd.prog w = .ok (.bool (a.toList == c.toList && b.toList == d.toList)) w := by
  have ht : Tryd.prog.underlying 36 = some (.struct (Tryd.prog.fieldsOf 36)) := by kernel_rfl
  have hp : Tryd.prog.stoodInHeld 36 = false := by kernel_rfl
  have _hm : Tryd.prog.eqGuardType Tryd.prog.depth 36 = false := by kernel_rfl
  have hE : ∀ w, (Op.equalIn 10000 36 (.agg #[.string a, .string b]) (.agg #[.string c, .string d])).run Tryd.prog w = .ok (a.toList == c.toList && b.toList == d.toList) w := fun w => by
    rw [run_equalIn_agg w 9999 _ _ _ ht hp]
    simp only [Program.fieldsOf, Tryd.underlying36]
    simp [go_sem, Tryd.underlying9]
    repeat' split
    all_goals simp_all
  first
    | (rw [run_eql_struct, hE]; rfl)
    | (rw [run_eql_struct, hE])
    | (unfold binOp; simp only [Sem.run_bind, hE, Result.andThen_ok, Sem.run_pure])
/-- How long a line is. -/
theorem jT_len : ∀ ws : List Bt, (jT ws).length = (ws.map fun w => w.length + 1).sum
  | [] => rfl
  | w :: r => by
    rw [show w :: r = [w] ++ r from rfl, jT_app, jT_one, List.length_append, jT_len r, List.map_append, List.sum_append]
    simp
theorem hdW_sum : ∀ hs : List (ByteArray × ByteArray), ((hdW (hs.map hdB)).map fun w => w.length + 1).sum ≤ 2 * szH hs
  | [] => by simp [hdW]
  | h :: r => by
    have ih := hdW_sum r
    have e : hdW ((h :: r).map hdB) = hexW (bl h.1) :: hexW (bl h.2) :: hdW (r.map hdB) := rfl
    rw [e, szH_cons]
    simp only [List.map_cons, List.sum_cons]
    unfold hexW
    simp only [List.length_cons, hexL_length]
    have e1 : (bl h.1).length = h.1.size := rfl
    have e2 : (bl h.2).length = h.2.size := rfl
    omega
theorem fms_wlen : ∀ f ∈ fms, f.word.length ≤ 6 := by decide
theorem line_len {x : Stp} {l : Bt} (h : lineS (spOf x) = some l) (hr : RgS x) : l.length ≤ 100 + 2 * szS x := by
  obtain ⟨f, hf, hk, hc, _⟩ := line_some h
  rw [lineK hf hk hc] at h
  injection h with h
  subst h
  rw [List.length_append, jT_len, List.map_append, List.sum_append, List.map_append, List.sum_append]
  have h1 := fms_wlen f hf
  have h3 := hdW_sum x.hs
  have h2 : (((if f.text then [hexW (bl x.t)] else []) : List Bt).map fun w => w.length + 1).sum ≤ 2 * x.t.size + 2 := by
    have e1 : (bl x.t).length = x.t.size := rfl
    split
    · simp only [List.map_cons, List.map_nil, List.sum_cons, List.sum_nil]
      unfold hexW
      simp only [List.length_cons, hexL_length]
      omega
    · simp
  have h4 : ((((numsS (spOf x)).take f.n).map Lib.itoa).map fun w => w.length + 1).sum ≤ 66 := by
    obtain ⟨r1, r2, r3⟩ := hr
    have a1 := itoa_len r1
    have a2 := itoa_len r2
    have a3 := itoa_len r3
    have hn := fms_n f hf
    have : f.n = 0 ∨ f.n = 1 ∨ f.n = 2 ∨ f.n = 3 := by omega
    unfold numsS spOf
    rcases this with e | e | e | e <;> rw [e] <;> simp <;> omega
  refine Nat.le_trans (Nat.add_le_add h1 (Nat.add_le_add h4 (Nat.add_le_add h2 h3))) ?_
  unfold szS
  omega
/-- A text all of whose lines are steps. -/
theorem read_asB (s : ByteArray) (xs : List Stp) (n : Nat) (hn : xs.length = n) (h : (lnB s).map (fun x => stepS (bl x)) = xs.map (fun x => some (spOf x))) (hs : s.size ≤ 3000000) (h6 : n ≤ 60000) (w : World) (hT : TabT w) :
    Calls Tryd.prog 6 #[.string s] w fun e w' => ∃ (a : Option Addr) (c : Nat) (ys : List Yv), e = .returned (.tuple #[.slice a n c, .int .i64 0, .int .i64 0]) ∧ ys.map (·.y) = xs ∧ Own w' w.heap.size 26 6 a n c (yV ys) ∧ YsOk w' w.heap.size ys ∧ Below w.heap.size w w' := by
  refine (read_big s hs (by have h7 := congrArg List.length h; rw [List.length_map, List.length_map] at h7; omega) w hT).mono ?_
  rintro e w' ⟨hb, ⟨ys, m, a, c, hy, hl, he, ho, hok⟩ | ⟨k, _, ⟨x, hx, hx2⟩, _⟩⟩
  · rw [h] at hy
    have e1 : ys.map (·.y) = xs := by
      have : ys.map (fun v => spOf v.y) = xs.map spOf := by
        have := congrArg (List.map (fun o : Option Sp => o.getD ⟨0, 0, 0, 0, [], []⟩)) hy
        simpa [List.map_map, Function.comp_def] using this.symm
      apply List.ext_getElem?
      intro i
      have hi := congrArg (·[i]?) this
      simp only [List.getElem?_map] at hi ⊢
      cases h1 : ys[i]? <;> cases h2 : xs[i]? <;> rw [h1, h2] at hi <;> simp at hi ⊢
      exact sp_eq.1 hi
    have e2 : m = n := by rw [← hl, ← hn, ← e1, List.length_map]
    subst e2
    exact ⟨a, c, ys, he, e1, ho, hok, hb⟩
  · have := congrArg (·[k]?) h
    simp only [List.getElem?_map, hx, Option.map_some] at this
    rw [hx2] at this
    cases hq : xs[k]? with
    | none => rw [hq] at this; cases this
    | some q => rw [hq] at this; cases this
theorem read_as (s : ByteArray) (xs : List Stp) (n : Nat) (hn : xs.length = n) (h : (lnB s).map (fun x => stepS (bl x)) = xs.map (fun x => some (spOf x))) (hs : s.size ≤ 60000) (w : World) (hT : TabT w) :
    Calls Tryd.prog 6 #[.string s] w fun e w' => ∃ (a : Option Addr) (c : Nat) (ys : List Yv), e = .returned (.tuple #[.slice a n c, .int .i64 0, .int .i64 0]) ∧ ys.map (·.y) = xs ∧ Own w' w.heap.size 26 6 a n c (yV ys) ∧ YsOk w' w.heap.size ys ∧ Below w.heap.size w w' :=
  read_asB s xs n hn h (by omega) (by have h7 := congrArg List.length h; have h8 := lnB_len s; rw [List.length_map, List.length_map] at h7; omega) w hT
def aw1 : Stp := ⟨4, -1, 200, 5, ⟨#[97]⟩, [(⟨#[75]⟩, ⟨#[118]⟩)]⟩
def aw2 : Stp := ⟨8, 2, 1, 0, ByteArray.empty, []⟩
def aw3 : Stp := ⟨3, 0, 0, 0, ByteArray.empty, []⟩
def aw4 : Stp := ⟨2, 7, 0, 0, ByteArray.empty, []⟩
theorem it_m1 : Lib.itoa (-1) = [45, 49] := by unfold Lib.itoa; simp [Lib.decDigits]
theorem it_200 : Lib.itoa 200 = [50, 48, 48] := by unfold Lib.itoa; simp [Lib.decDigits]
theorem it_5 : Lib.itoa 5 = [53] := by unfold Lib.itoa; simp [Lib.decDigits]
theorem it_2 : Lib.itoa 2 = [50] := by unfold Lib.itoa; simp [Lib.decDigits]
theorem it_1 : Lib.itoa 1 = [49] := by unfold Lib.itoa; simp [Lib.decDigits]
theorem it_7 : Lib.itoa 7 = [55] := by unfold Lib.itoa; simp [Lib.decDigits]
theorem aw1_line : lineS (spOf aw1) = some [97, 110, 115, 119, 101, 114, 32, 45, 49, 32, 50, 48, 48, 32, 53, 32, 120, 54, 49, 32, 120, 52, 98, 32, 120, 55, 54] := by
  rw [line_of (f := ⟨4, [97, 110, 115, 119, 101, 114], 3, true, true⟩) (by decide) rfl (by decide)]
  simp only [wordsS, numsS, spOf, aw1, List.take_succ_cons, List.take_zero, List.map_cons, List.map_nil, it_m1, it_200, it_5]
  decide
theorem aw2_line : lineS (spOf aw2) = some [102, 97, 117, 108, 116, 32, 50, 32, 49] := by
  rw [line_of (f := ⟨8, [102, 97, 117, 108, 116], 2, false, false⟩) (by decide) rfl (by decide)]
  simp only [wordsS, numsS, spOf, aw2, List.take_succ_cons, List.take_zero, List.map_cons, List.map_nil, it_2, it_1]
  decide
theorem aw3_line : lineS (spOf aw3) = some [112, 111, 108, 108] := by
  rw [line_of (f := ⟨3, [112, 111, 108, 108], 0, false, false⟩) (by decide) rfl (by decide)]
  decide
theorem aw4_line : lineS (spOf aw4) = some [99, 108, 111, 99, 107, 32, 55] := by
  rw [line_of (f := ⟨2, [99, 108, 111, 99, 107], 1, false, false⟩) (by decide) rfl (by decide)]
  simp only [wordsS, numsS, spOf, aw4, List.take_succ_cons, List.take_zero, List.map_cons, List.map_nil, it_7]
  decide
theorem rng_small {z : Int} (h1 : -1000 ≤ z) (h2 : z ≤ 1000) : Rng z := by unfold Rng; omega
theorem aw1_step : stepS (bl ⟨#[97, 110, 115, 119, 101, 114, 32, 45, 49, 32, 50, 48, 48, 32, 53, 32, 120, 54, 49, 32, 120, 52, 98, 32, 120, 55, 54]⟩) = some (spOf aw1) := step_of_line aw1_line ⟨rng_small (by decide) (by decide), rng_small (by decide) (by decide), rng_small (by decide) (by decide)⟩
theorem aw34_lines : (lnB ⟨#[112, 111, 108, 108, 10, 99, 108, 111, 99, 107, 32, 55]⟩).map (fun x => stepS (bl x)) = [aw3, aw4].map (fun x => some (spOf x)) := by
  have e : lnB ⟨#[112, 111, 108, 108, 10, 99, 108, 111, 99, 107, 32, 55]⟩ = [stB [112, 111, 108, 108], stB [99, 108, 111, 99, 107, 32, 55]] := by
    unfold lnB
    rw [show bl ⟨#[112, 111, 108, 108, 10, 99, 108, 111, 99, 107, 32, 55]⟩ = [112, 111, 108, 108] ++ 10 :: [99, 108, 111, 99, 107, 32, 55] from rfl, lnl_word _ _ (by decide), lnl_last _ (by decide) (by decide)]
    rfl
  rw [e]
  simp only [List.map_cons, List.map_nil]
  rw [bl_stB, bl_stB, step_of_line aw3_line ⟨rng_small (by decide) (by decide), rng_small (by decide) (by decide), rng_small (by decide) (by decide)⟩, step_of_line aw4_line ⟨rng_small (by decide) (by decide), rng_small (by decide) (by decide), rng_small (by decide) (by decide)⟩]
end Go.Proofs.YtbfdklmljcdonaaDoor
