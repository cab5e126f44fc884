/- Layer 13: its fixed fact; all functions of no disk. -/
import Derived.Test.YtomeipjglnpciaaDkCra
import Derived.Test.YtomeipjglnpciaaDkRd
import Derived.Test.YtomeipjglnpciaaDkSeg
import Derived.Test.YtomeipjglnpciaaRowB
namespace Go.Proofs.Ytomeipjglnpciaa
open Go Go.RowKit Go.Maps
set_option linter.unusedVariables false
set_option linter.unusedSimpArgs false
set_option maxRecDepth 10000

theorem fault_nil (x y : Int) (w : World) : Calls Try.prog 12 #[.pointer none, .int .i64 x, .int .i64 y] w fun e w' => e = .returned (.tuple #[]) ∧ w' = w := by
  go_enter Try.func12, Try.ntmps12
  go_wp2
  exact bodyPost_ret (v := .tuple #[]) (by simp [results, Try.results12, go_sem]) rfl ⟨rfl, rfl⟩
theorem crash_nil (x : Int) (w : World) : Calls Try.prog 13 #[.pointer none, .int .i64 x] w fun e w' => e = .returned (.tuple #[]) ∧ w' = w := by
  go_enter Try.func13, Try.ntmps13
  go_wp2
  exact bodyPost_ret (v := .tuple #[]) (by simp [results, Try.results13, go_sem]) rfl ⟨rfl, rfl⟩
theorem sync_nil (w : World) : Calls Try.prog 8 #[.pointer none] w fun e w' => e = .returned (.int .i64 1) ∧ w' = w := by
  go_enter Try.func8, Try.ntmps8
  go_wp2
  go_ret
  exact ⟨rfl, rfl⟩
theorem drop_nil (n : Int) (w : World) : Calls Try.prog 10 #[.pointer none, .int .i64 n] w fun e w' => e = .returned (.int .i64 1) ∧ Below w.heap.size w w' := by
  go_enter Try.func10, Try.ntmps10
  have BB := Lib.hid ((Below.refl w.heap.size w).alloc (Nat.le_refl _) (.cells #[.int .i64 n] 3))
  go_wp2
  go_ret
  exact ⟨rfl, BB.out⟩
theorem segs_nil (w : World) : Calls Try.prog 15 #[.pointer none] w fun e w' => e = .returned (.slice none 0 0) ∧ w' = w := by
  go_enter Try.func15, Try.ntmps15
  go_wp2
  go_ret
  exact ⟨rfl, rfl⟩
/-- '[]byte(..)' of a text that is written out: the bytes lie in a new block, whose end is marked. -/
theorem conv_lit (w : World) (cs : Array Value) (m : Nat) (hm : cs.size = m) : ∃ w', (convert 27 27 (.slice (some ⟨w.heap.size, 0, none⟩) m m)).run Try.prog (w.alloc (.cells cs 5)) = .ok (.slice (some ⟨w.heap.size, 0, none⟩) m m) w' ∧ Below w.heap.size w w' ∧ w.heap.size < w'.heap.size ∧ ∀ j, w'.cell? ⟨w.heap.size, j, none⟩ = cs[j]? := by
  have hb := heap_alloc_new w (.cells cs 5)
  have hsh : (w.alloc (.cells cs 5)).shape? w.heap.size = some (5, m) := by
    unfold World.shape?
    rw [hb]
    simp [hm]
  have hl : w.heap.size < (w.alloc (.cells cs 5)).heap.size := by simp
  refine ⟨(w.alloc (.cells cs 5)).freeze ⟨w.heap.size, m, none⟩ 1, ?_, ?_, ?_, fun j => ?_⟩
  · simp [convert, go_sem, Try.underlying27, Try.underlying5, markStringish, hsh]
  · refine ((Below.refl w.heap.size w).alloc (Nat.le_refl _) (.cells cs 5)).trans ?_
    unfold World.freeze
    exact ⟨rfl, rfl, rfl, by simp, fun k hk => by
      simp only [Nat.one_ne_zero, if_false, Array.getElem?_modify]
      rw [if_neg (by omega)]⟩
  · unfold World.freeze
    simp
  · have h9 : ((w.alloc (.cells cs 5)).freeze ⟨w.heap.size, m, none⟩ 1).heap[w.heap.size]? = some (.cells cs 5 (m, m + 1)) := by
      unfold World.freeze
      simp only [Nat.one_ne_zero, if_false, Array.getElem?_modify, if_pos rfl, hb]
      rfl
    unfold World.cell?
    rw [h9]
    rfl
section
variable {w : World} {B d bm uc : Nat} {S : Sgs} {V : VF} {ua : Option Addr} {un : Pcs} {most beh fal : Int}
/-- Bytes that lie in a block of their own are added, and there is room. -/
theorem app_lit (h : Dm w B d bm S V ua uc un most beh fal) (hB : B ≤ w.heap.size) (n : Int) (hn : 0 ≤ n) (hnw : (Lit.int .i64 n).wf = true) (hu : un.length ≤ 99999) (b : List Int) (m : Nat) (hm : b.length = m) (hm2 : m ≤ 100000) (cs : Array Value) (hcs : cs.toList = u8L b)
    (hf : apF S most n m = false) (hw : wfB beh fal = false) :
    ∃ w2, (convert 27 27 (.slice (some ⟨w.heap.size, 0, none⟩) m m)).run Try.prog (w.alloc (.cells cs 5)) = .ok (.slice (some ⟨w.heap.size, 0, none⟩) m m) w2 ∧ Calls Try.prog 6 #[.pointer (some ⟨d, 0, none⟩), .int .i64 n, .slice (some ⟨w.heap.size, 0, none⟩) m m] w2 fun e w' => e = .returned (.int .i64 0) ∧ ∃ V' ua' uc', Dm w' B d bm (pS S n (gD S n ++ b)) V' ua' uc' (un ++ [(n, m)]) most (wfH beh) (wfF beh fal) ∧ Below B w w' := by
  have hsz : cs.size = m := by rw [← Array.length_toList, hcs]; simp [u8L, hm]
  obtain ⟨w2, h1, hb, hl, hc⟩ := conv_lit w cs m hsz
  refine ⟨w2, h1, ?_⟩
  have hr : RdC w2 (some ⟨w.heap.size, 0, none⟩) (u8L b) := fun j u hj => ⟨_, 0, rfl, by
    rw [Nat.zero_add, hc, ← Array.getElem?_toList, hcs]
    exact hj⟩
  refine (app_at (h.later hb) n hn hnw hu b m hm hm2 _ m hr (fun g off e _ hmi => ?_)).mono fun e w' hp => ?_
  · injection e with e
    injection e with e
    have := (h.mine hmi).1
    omega
  · rw [AppP, hm, hf, hw] at hp
    rcases hp with ⟨h1, _⟩ | ⟨_, h1, _⟩ | ⟨_, _, h1, V', ua', uc', h2, h3⟩
    · cases h1
    · cases h1
    · exact ⟨h1, V', ua', uc', h2, (hb.mono hB).trans ((h.later hb).turn h3 (Nat.le_trans hB hb.size))⟩
end
theorem own_text {w : World} {B n c : Nat} {a : Option Addr} {b : List Int} (h : Own w B 5 1 a n c (u8L b)) (hn : b.length = n) (s : ByteArray) (hs : strL b = s) (k : Nat) : (convert 27 9 (.slice a n c)).run Try.prog (w.drewN k) = .ok (.string s) (w.drewN k) := by
  subst hs hn
  refine RdB.text ?_ 27 5 9 Try.underlying27 Try.underlying5 Try.underlying9 (fun _ => ?_) c
  · by_cases h0 : b = []
    · exact Or.inl h0
    · obtain ⟨g, rfl, _⟩ := h.some_ (List.length_pos_iff.2 h0)
      exact Or.inr ⟨g, 0, rfl, fun i z hi => by rw [Nat.zero_add]; exact h.cell (by unfold u8L; rw [List.getElem?_map, hi]; rfl)⟩
  · rcases h.form with ⟨h1, _⟩ | ⟨g, h1, _⟩
    · exact Or.inl h1
    · exact Or.inr ⟨g, 0, h1⟩
set_option maxHeartbeats 4000000 in
theorem d_awake (w : World) : Calls Try.prog 18 #[] w fun e w' => e = .returned (.bool true) ∧ Below w.heap.size w w' := by
  go_enter Try.func18, Try.ntmps18
  go_wp2_with fail
  refine (dnew_at 2 w w.heap.size (Nat.le_refl _)).mono ?_
  rintro e w1 ⟨rfl, k1, b1⟩
  obtain ⟨B, hB⟩ : ∃ B, w.heap.size = B := ⟨_, rfl⟩
  rw [hB] at k1 b1 ⊢
  have HB0 : Hid (B ≤ w.heap.size) := Lib.hid (Nat.le_of_eq hB.symm)
  have HBE : Hid (B = w.heap.size) := Lib.hid hB.symm
  clear hB
  rw [show moI 2 = 2 from rfl] at k1
  have D1 := Lib.hid k1
  have L1 := Lib.hid b1
  clear k1 b1
  obtain ⟨x2, cv2, a2⟩ := app_lit D1.out (Nat.le_trans HB0.out L1.out.size) 3 (by decide) (by decide) (by decide) [97, 98] 2 rfl (by decide) #[.int .u8 97, .int .u8 98] rfl (by decide) (by decide)
  have A2 := Lib.hid a2
  clear a2
  go_wp2_with fail
  clear cv2
  refine A2.out.mono ?_
  rintro e w2 ⟨rfl, V2, ua2, uc2, k2, b2⟩
  have k2 : Dm w2 B (B + 1) B [(3, [97, 98])] V2 ua2 uc2 [(3, 2)] 2 0 0 := k2
  have L2 := Lib.hid (L1.out.trans b2)
  have D2 := Lib.hid k2
  clear k2 b2 A2 D1 L1
  have A3 := Lib.hid (sync_at D2.out)
  rw [show wfB 0 0 = false from rfl] at A3
  have SZ2 := Lib.hid (Nat.le_trans HB0.out L2.out.size)
  go_wp2_with fail
  refine A3.out.mono ?_
  rintro e w3 ⟨rfl, V3, ua3, uc3, k3, t3⟩
  have L3 := Lib.hid (L2.out.trans (D2.out.turn t3 SZ2.out))
  rw [show wfH 0 = 0 from rfl, show wfF 0 0 = 0 from rfl, if_neg (by decide)] at k3
  have D3 := Lib.hid k3
  clear k3 t3 A3 D2 L2 SZ2
  obtain ⟨x4, cv4, a4⟩ := app_lit D3.out (Nat.le_trans HB0.out L3.out.size) 3 (by decide) (by decide) (by decide) [99, 100] 2 rfl (by decide) #[.int .u8 99, .int .u8 100] rfl (by decide) (by decide)
  have A4 := Lib.hid a4
  clear a4
  go_wp2_with fail
  clear cv4
  refine A4.out.mono ?_
  rintro e w4 ⟨rfl, V4, ua4, uc4, k4, b4⟩
  have k4 : Dm w4 B (B + 1) B [(3, [97, 98, 99, 100])] V4 ua4 uc4 [(3, 2)] 2 0 0 := k4
  have L4 := Lib.hid (L3.out.trans b4)
  have D4 := Lib.hid k4
  clear k4 b4 A4 D3 L3
  obtain ⟨x5, cv5, a5⟩ := app_lit D4.out (Nat.le_trans HB0.out L4.out.size) 1 (by decide) (by decide) (by decide) [101, 102] 2 rfl (by decide) #[.int .u8 101, .int .u8 102] rfl (by decide) (by decide)
  have A5 := Lib.hid a5
  clear a5
  go_wp2_with fail
  clear cv5
  refine A5.out.mono ?_
  rintro e w5 ⟨rfl, V5, ua5, uc5, k5, b5⟩
  have k5 : Dm w5 B (B + 1) B [(1, [101, 102]), (3, [97, 98, 99, 100])] V5 ua5 uc5 [(3, 2), (1, 2)] 2 0 0 := k5
  have L5 := Lib.hid (L4.out.trans b5)
  have D5 := Lib.hid k5
  clear k5 b5 A5 D4 L4
  have A6 := Lib.hid (app_at D5.out 2 (by decide) (by decide) (by decide) [] 0 rfl (by decide) none 0 (fun j u hj => by simp [u8L] at hj) (fun g off e => by cases e))
  go_wp2_with fail
  refine A6.out.mono ?_
  rintro e w6 hp
  have hp6 : e = .returned (.int .i64 5) ∧ Below w5.heap.size w5 w6 := by
    rcases hp with ⟨_, h1, h2⟩ | ⟨h, _⟩ | ⟨h, _⟩
    · exact ⟨h1, h2⟩
    · exact absurd h (by decide)
    · exact absurd h (by decide)
  obtain ⟨rfl, b6⟩ := hp6
  have D6 := Lib.hid (D5.out.later b6)
  have L6 := Lib.hid (L5.out.trans (b6.mono (Nat.le_trans HB0.out L5.out.size)))
  clear hp b6 A6 D5 L5
  have A7 := Lib.hid (crash_at D6.out 3 (by decide) (by decide))
  have SZ6 := Lib.hid (Nat.le_trans HB0.out L6.out.size)
  go_wp2_with fail
  refine A7.out.mono ?_
  rintro e w7 ⟨rfl, V7, ua7, uc7, k7, t7⟩
  have L7 := Lib.hid (L6.out.trans (D6.out.turn t7 SZ6.out))
  rw [show crash 3 [(1, [101, 102]), (3, [97, 98, 99, 100])] [(3, 2), (1, 2)] = [(1, [101]), (3, [97, 98, 99, 100])] from rfl] at k7
  have D7 := Lib.hid k7
  clear k7 t7 A7 D6 L6 SZ6
  have A8 := Lib.hid (read_at D7.out 3 (by decide))
  go_wp2_with fail
  refine A8.out.mono ?_
  rintro e w8 hp
  have hp8 : ∃ a c, e = .returned (.tuple #[.slice a 4 c, .int .i64 0]) ∧ Own w8 w7.heap.size 5 1 a 4 c (u8L [97, 98, 99, 100]) ∧ Below w7.heap.size w7 w8 := by
    rcases hp with ⟨h, _⟩ | ⟨_, h⟩
    · exact absurd h (by decide)
    · exact h
  obtain ⟨xa, xc, rfl, o8, b8⟩ := hp8
  have D8 := Lib.hid (D7.out.later b8)
  have O8 := Lib.hid o8
  have L8 := Lib.hid (L7.out.trans (b8.mono (Nat.le_trans HB0.out L7.out.size)))
  clear hp b8 o8 A8 D7 L7
  have A9 := Lib.hid (read_at D8.out 1 (by decide))
  go_wp2_with fail
  refine A9.out.mono ?_
  rintro e w9 hp
  have hp9 : ∃ a c, e = .returned (.tuple #[.slice a 1 c, .int .i64 0]) ∧ Own w9 w8.heap.size 5 1 a 1 c (u8L [101]) ∧ Below w8.heap.size w8 w9 := by
    rcases hp with ⟨h, _⟩ | ⟨_, h⟩
    · exact absurd h (by decide)
    · exact h
  obtain ⟨ya, yc, rfl, o9, b9⟩ := hp9
  have D9 := Lib.hid (D8.out.later b9)
  have T1 : (convert 27 9 (.slice xa 4 xc)).run Try.prog w9 = .ok (.string ⟨#[97, 98, 99, 100]⟩) w9 := own_text (O8.out.later b9) rfl ⟨#[97, 98, 99, 100]⟩ rfl 0
  have T2 : (convert 27 9 (.slice ya 1 yc)).run Try.prog w9 = .ok (.string ⟨#[101]⟩) w9 := own_text o9 rfl ⟨#[101]⟩ rfl 0
  have L9 := Lib.hid (L8.out.trans (b9.mono (Nat.le_trans HB0.out L8.out.size)))
  clear hp b9 o9 O8 A9 D8 L8
  have A10 := Lib.hid (segs_at D9.out 2 rfl)
  go_wp2_with fail
  refine A10.out.mono ?_
  rintro e w10 ⟨sa, sc, rfl, _, b10⟩
  have L10 := Lib.hid (L9.out.trans (b10.mono (Nat.le_trans HB0.out L9.out.size)))
  clear b10 A10 D9 L9 T1 T2
  go_wp2
  go_ret
  exact ⟨rfl, by have h9 := L10.out; rw [HBE.out] at h9; exact h9⟩
end Go.Proofs.Ytomeipjglnpciaa
