/- TaleSteps: the walk. -/
import Derived.Test.YtmdaggcfnkacjaaDoorTlAwk2
namespace Go.Proofs.YtmdaggcfnkacjaaDoor
open Go Go.RowKit
set_option linter.unusedVariables false
set_option linter.unusedSimpArgs false
set_option maxRecDepth 10000

def szo : Stp := ⟨0, 0, 0, 0, ByteArray.empty, []⟩
/-- What a line's step is as long as. -/
theorem step_small {l : Bt} {x : Stp} (h : lineS (spOf x) = some l) (hl : l.length ≤ 100000) : SzS x := by
  obtain ⟨f, hf, hk, hc, hj⟩ := line_some h
  rw [lineK hf hk hc] at h
  injection h with h
  have hlen : (jT (((numsS (spOf x)).take f.n).map Lib.itoa ++ ((if f.text then [hexW (spOf x).text] else []) ++ hdW (spOf x).hs))).length ≤ l.length := by
    rw [← h, List.length_append]
    omega
  rw [jT_len, List.map_append, List.sum_append, List.map_append, List.sum_append] at hlen
  unfold covB at hc
  rw [Bool.and_eq_true, Bool.and_eq_true] at hc
  have ht : x.t.size ≤ 100000 := by
    cases hx : f.text with
    | true =>
      rw [hx] at hlen
      rw [if_pos rfl, List.map_cons, List.sum_cons] at hlen
      unfold hexW at hlen
      simp only [List.length_cons, hexL_length] at hlen
      have e1 : (spOf x).text.length = x.t.size := rfl
      omega
    | false =>
      have h2 := hc.2.1
      rw [hx, Bool.false_or, List.isEmpty_iff] at h2
      have e1 : (spOf x).text.length = x.t.size := rfl
      rw [h2] at e1
      rw [← e1]
      simp
  have hh : ∀ hs : List (ByteArray × ByteArray), 4 * hs.length ≤ ((hdW (hs.map hdB)).map fun w => w.length + 1).sum ∧ ∀ h ∈ hs, h.1.size + h.2.size ≤ ((hdW (hs.map hdB)).map fun w => w.length + 1).sum := by
    intro hs
    induction hs with
    | nil => exact ⟨by simp, fun h hh => by cases hh⟩
    | cons h r ih =>
      have e : hdW ((h :: r).map hdB) = hexW (bl h.1) :: hexW (bl h.2) :: hdW (r.map hdB) := rfl
      rw [e]
      simp only [List.map_cons, List.sum_cons]
      unfold hexW
      simp only [List.length_cons, hexL_length]
      have e1 : (bl h.1).length = h.1.size := rfl
      have e2 : (bl h.2).length = h.2.size := rfl
      refine ⟨by omega, fun q hq => ?_⟩
      rcases List.mem_cons.1 hq with rfl | hq
      · omega
      · have := ih.2 q hq
        omega
  obtain ⟨h1, h2⟩ := hh x.hs
  have e3 : (spOf x).hs = x.hs.map hdB := rfl
  rw [e3] at hlen
  exact ⟨ht, by omega, fun q hq => by have := h2 q hq; omega⟩
set_option maxHeartbeats 4000000 in
theorem taleSteps_walk (l : ByteArray) (w : World) (hl : l.size ≤ maxLen) (hT : TabT w) :
    Calls Tryd.prog 4 #[.string l] w fun e w' => e = .returned (.bool true) ∧ Below w.heap.size w w' := by
  have HT := Lib.hid hT
  have AW := Lib.hid (awake24 w hT)
  clear hT
  go_enter Tryd.func4, Tryd.ntmps4
  by_cases hbig : 4000 < l.size
  · have d1 : decide ((4000 : Int) < (l.size : Int)) = true := decide_eq_true (by omega)
    have d2 : decide ((l.size : Int) > 4000) = true := decide_eq_true (by omega)
    have d3 : decide (4000 < l.size) = true := decide_eq_true hbig
    go_wp2_with fail
    refine AW.out.mono ?_
    rintro e w3 ⟨rfl, hb⟩
    go_wp2
    go_ret
    exact ⟨rfl, hb⟩
  have d1 : decide ((4000 : Int) < (l.size : Int)) = false := decide_eq_false (by omega)
  have d2 : decide ((l.size : Int) > 4000) = false := decide_eq_false (by omega)
  have d3 : decide (4000 < l.size) = false := decide_eq_false hbig
  have HZ : Hid (l.size ≤ 4000) := Lib.hid (by omega)
  clear AW hl hbig
  cases hS : stepS (bl l) with
  | none =>
    have HS := Lib.hid hS
    clear hS
    go_wp2_with fail
    refine (step_no l HS.out (by have := HZ.out; omega) _ HT.out).mono ?_
    rintro e w2 ⟨rfl, hb⟩
    have B2 := Lib.hid hb
    clear hb
    go_upto_region 4 with fail
    refine code_forget (fun W => Hid (Box W w2.heap.size #[.int .i64 0, .int .i64 0, .int .i64 0, .int .i64 0, .string ByteArray.empty, .slice none 0 0] 24) ∧ Hid (Below w2.heap.size w2 W)) ⟨Lib.hid (Box.new w2 _ _), Lib.hid ((Below.refl w2.heap.size w2).alloc (Nat.le_refl _) _)⟩ ?_
    obtain ⟨ay, hay⟩ : ∃ b, w2.heap.size = b := ⟨_, rfl⟩
    rintro w3 ⟨BY, hb⟩
    have B3 := Lib.hid (B2.out.trans (hb.out.mono B2.out.size))
    rw [hay] at BY ⊢
    clear hay hb B2
    have AW := Lib.hid (awake24 w3 (HT.out.later B3.out))
    go_wp2_with fail
    refine AW.out.mono ?_
    rintro e w4 ⟨rfl, hb⟩
    have BY4 := Lib.hid (BY.out.later hb)
    have B4 := Lib.hid (B3.out.trans (hb.mono B3.out.size))
    clear hb BY B3 AW
    have r0 := BY4.out.cell 0
    have r1 := BY4.out.cell 1
    have r2 := BY4.out.cell 2
    have r3 := BY4.out.cell 3
    have r4 := BY4.out.cell 4
    have r5 := BY4.out.cell 5
    have lr := BY4.out.lt
    go_wp2_with fail
    refine (same_at szo szo none none 0 0 0 0 rfl rfl (by decide) _ (fun j u hj => by simp [hdV, szo] at hj) (fun j u hj => by simp [hdV, szo] at hj)).mono ?_
    rintro e w8 ⟨q, rfl, hq, hb⟩
    obtain rfl : q = true := hq.2 rfl
    have BE := Lib.hid (B4.out.trans (hb.mono B4.out.size))
    go_wp2
    go_ret
    exact ⟨rfl, BE.out⟩
  | some sp =>
    obtain ⟨hLn, hRg⟩ := line_of_step hS
    obtain ⟨x, rfl⟩ : ∃ x : Stp, spOf x = sp := ⟨⟨sp.kind, sp.a, sp.b, sp.c, stB sp.text, sp.hs.map fun h => (stB h.1, stB h.2)⟩, by
      obtain ⟨k, a, b, c, t, hs⟩ := sp
      unfold spOf
      dsimp only
      rw [List.map_map, bl_stB]
      congr 1
      exact (List.map_congr_left (fun h _ => rfl)).trans (List.map_id _)⟩
    have HS := Lib.hid hS
    have HL := Lib.hid hLn
    have HG : Hid (RgS x) := Lib.hid hRg
    have HX : Hid (SzS x) := Lib.hid (step_small hLn (by have := HZ.out; have e : (bl l).length = l.size := rfl; omega))
    obtain ⟨n, hn⟩ : ∃ n, x.hs.length = n := ⟨_, rfl⟩
    have HN := Lib.hid hn
    clear hS hLn hRg hn
    go_wp2_with fail
    refine (step_as l x HS.out (by have := HZ.out; omega) _ HT.out).mono ?_
    rintro e w2 ⟨ha, hc, rfl, ho, hb⟩
    rw [HN.out] at ho ⊢
    have RD := Lib.hid (rdc_own ho (by decide))
    have B2 := Lib.hid hb
    clear hb ho
    unfold stA
    go_upto_region 4 with fail
    refine code_forget (fun W => Hid (Box W w2.heap.size #[.int .i64 x.k, .int .i64 x.a, .int .i64 x.b, .int .i64 x.c, .string x.t, .slice ha n hc] 24) ∧ Hid (Below w2.heap.size w2 W)) ⟨Lib.hid (Box.new w2 _ _), Lib.hid ((Below.refl w2.heap.size w2).alloc (Nat.le_refl _) _)⟩ ?_
    obtain ⟨ay, hay⟩ : ∃ b, w2.heap.size = b := ⟨_, rfl⟩
    rintro w3 ⟨BY, hb⟩
    have RD3 := Lib.hid (RD.out.later hb.out)
    have B3 := Lib.hid (B2.out.trans (hb.out.mono B2.out.size))
    rw [hay] at BY ⊢
    clear hay hb B2 RD
    have r0 := BY.out.cell 0
    have r1 := BY.out.cell 1
    have r2 := BY.out.cell 2
    have r3 := BY.out.cell 3
    have r4 := BY.out.cell 4
    have r5 := BY.out.cell 5
    have lr := BY.out.lt
    go_wp2_with fail
    refine (lline_at x HX.out HG.out ha n hc HN.out _ RD3.out).mono ?_
    rintro e w4 ⟨hb, hh⟩
    obtain rfl : e = .returned (.tuple #[.string l, .bool true]) := by
      rcases hh with ⟨h, _⟩ | ⟨l', h, he⟩
      · rw [HL.out] at h
        cases h
      · rw [HL.out] at h
        rw [bl_eq (Option.some.inj h)]
        exact he
    have B4 := Lib.hid (B3.out.trans (hb.mono B3.out.size))
    have AW := Lib.hid (awake24 w4 (HT.out.later B4.out))
    clear hb hh B3 BY r0 r1 r2 r3 r4 r5 lr RD3
    go_wp2_with fail
    refine AW.out.mono ?_
    rintro e w5 ⟨rfl, hb⟩
    have BE := Lib.hid (B4.out.trans (hb.mono B4.out.size))
    go_wp2
    go_ret
    exact ⟨rfl, BE.out⟩
end Go.Proofs.YtmdaggcfnkacjaaDoor
