/- Layer 24: the fixed fact, walked. -/
import Derived.Test.YtbfdklmljcdonaaDoorTlAwk
namespace Go.Proofs.YtbfdklmljcdonaaDoor
open Go Go.RowKit
set_option linter.unusedVariables false
set_option linter.unusedSimpArgs false
set_option maxRecDepth 10000

theorem sz_few {x : Stp} (h1 : x.t.size ≤ 3000000) (h2 : x.hs = []) : SzS x := ⟨h1, by rw [h2]; decide, fun h hh => by rw [h2] at hh; cases hh⟩
set_option maxHeartbeats 2000000 in
theorem awake24 (w : World) (hT : TabT w) :
    Calls Tryd.prog 8 #[] w fun e w' => e = .returned (.bool true) ∧ Below w.heap.size w w' := by
  have HT := Lib.hid hT
  have S1 : Hid (∀ W, TabT W → Calls Tryd.prog 13 #[.string ⟨#[97, 110, 115, 119, 101, 114, 32, 45, 49, 32, 50, 48, 48, 32, 53, 32, 120, 54, 49, 32, 120, 52, 98, 32, 120, 55, 54]⟩] W fun e w' => ∃ ha hc, e = .returned (.tuple #[.agg #[.int .i64 4, .int .i64 (-1), .int .i64 200, .int .i64 5, .string ⟨#[97]⟩, .slice ha 1 hc], .int .i64 0]) ∧ Own w' W.heap.size 36 2 ha 1 hc [.string ⟨#[75]⟩, .string ⟨#[118]⟩] ∧ Below W.heap.size W w') := Lib.hid (fun W h => step_as ⟨#[97, 110, 115, 119, 101, 114, 32, 45, 49, 32, 50, 48, 48, 32, 53, 32, 120, 54, 49, 32, 120, 52, 98, 32, 120, 55, 54]⟩ aw1 aw1_step (by decide) W h)
  have L2 : Hid (∀ W, TabT W → Calls Tryd.prog 5 #[.agg #[.int .i64 8, .int .i64 2, .int .i64 1, .int .i64 0, .string ByteArray.empty, .slice none 0 0]] W fun e w' => e = .returned (.tuple #[.string ⟨#[102, 97, 117, 108, 116, 32, 50, 32, 49]⟩, .int .i64 0]) ∧ Below W.heap.size W w') := Lib.hid (fun W h => line_as aw2 ⟨#[102, 97, 117, 108, 116, 32, 50, 32, 49]⟩ aw2_line (sz_few (by decide) rfl) ⟨rng_small (by decide) (by decide), rng_small (by decide) (by decide), rng_small (by decide) (by decide)⟩ none 0 0 rfl W (fun j u hj => by simp [hdV, aw2] at hj) h)
  have R3 : Hid (∀ W, TabT W → Calls Tryd.prog 6 #[.string ⟨#[112, 111, 108, 108, 10, 99, 108, 111, 99, 107, 32, 55]⟩] W fun e w' => ∃ (a : Option Addr) (c : Nat), e = .returned (.tuple #[.slice a 2 c, .int .i64 0, .int .i64 0]) ∧ Below W.heap.size W w') := Lib.hid (fun W h => (read_as ⟨#[112, 111, 108, 108, 10, 99, 108, 111, 99, 107, 32, 55]⟩ [aw3, aw4] 2 rfl aw34_lines (by decide) W h).mono fun e w' ⟨a, c, _, he, _, _, _, hb⟩ => ⟨a, c, he, hb⟩)
  clear hT
  go_enter Tryd.func8, Tryd.ntmps8
  go_wp2_with fail
  refine (S1.out _ HT.out).mono ?_
  rintro e w1 ⟨ha, hc, rfl, ho, hb⟩
  obtain ⟨g, rfl, hg⟩ := ho.some_ (by decide)
  have c0 := ho.cell (j := 0) rfl
  have c1 := ho.cell (j := 1) rfl
  have C0 := Lib.hid c0
  have C1 := Lib.hid c1
  have B1 := Lib.hid hb
  have HT1 := Lib.hid (HT.out.later hb)
  clear S1 HT ho hb hg c0 c1
  go_upto_region 2 with fail
  refine code_forget (fun W => Hid (Box W w1.heap.size #[.int .i64 4, .int .i64 (-1), .int .i64 200, .int .i64 5, .string ⟨#[97]⟩, .slice (some ⟨g, 0, none⟩) 1 hc] 26) ∧ Hid (Below w1.heap.size w1 W)) ⟨Lib.hid (Box.new w1 _ _), Lib.hid ((Below.refl w1.heap.size w1).alloc (Nat.le_refl _) _)⟩ ?_
  rintro w2 ⟨BX, B2⟩
  have HT2 := Lib.hid (HT1.out.later B2.out)
  go_wp2_with fail
  refine (L2.out _ HT2.out).mono ?_
  rintro e w3 ⟨rfl, hb⟩
  have B3 := Lib.hid (B2.out.trans (hb.mono B2.out.size))
  have BX3 := Lib.hid (BX.out.later hb)
  have HT3 := Lib.hid (HT2.out.later hb)
  clear hb BX B2 HT2 L2
  go_wp2_with fail
  refine (R3.out _ HT3.out).mono ?_
  rintro e w4 ⟨a, c, rfl, hb⟩
  have B4 := B3.out.trans (hb.mono B3.out.size)
  have BX4 := BX3.out.later hb
  have s4 := BX4.cell 4
  have s5 := BX4.cell 5
  have ls := BX4.lt
  have c0 := (B4.cell (World.block_lt_of_cell? _ _ C0.out)).trans C0.out
  have c1 := (B4.cell (World.block_lt_of_cell? _ _ C1.out)).trans C1.out
  have BE := Lib.hid (B1.out.trans (B4.mono B1.out.size))
  clear hb BX3 B3 HT3 R3 BX4 B4 C0 C1 B1
  go_wp2
  go_ret
  exact ⟨rfl, BE.out⟩
end Go.Proofs.YtbfdklmljcdonaaDoor
