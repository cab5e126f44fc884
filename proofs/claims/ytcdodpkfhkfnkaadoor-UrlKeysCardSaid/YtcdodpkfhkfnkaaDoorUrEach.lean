/- Digits of a port one by one: 'each' with the program's step. -/
import Derived.Test.YtcdodpkfhkfnkaaDoorUrPar
import Derived.Test.YtcdodpkfhkfnkaaDoorPcPiece
namespace Go.Proofs.YtcdodpkfhkfnkaaDoor
open Go.RowKit
set_option linter.unusedVariables false
set_option linter.unusedSimpArgs false
set_option maxRecDepth 10000

theorem Box.iterAt {w : World} {b : Nat} {cs : Array Value} {t : TypeId} (h : Box w b cs t) {k : Nat} (hk : b ≠ k) (s : ByteArray) (pos : Nat) : Box (w.iterAt k s pos) b cs t := (Lib.iterAt_other w k b s pos hk).trans h
/-- Only boxes g and new blocks have turned. -/
theorem only_alloc {a w : World} {row : Option Nat} (h : a.grownBy w row) (o : Obj) : a.grownBy (w.alloc o) row :=
  ⟨h.os, h.tape, h.output, Nat.le_trans h.size (by simp), fun i hi hne => (Below.heap_alloc w o i (Nat.lt_of_lt_of_le hi h.size)).trans (h.block i hi hne)⟩
theorem only_setCell {a w : World} {g : Nat} (h : a.grownBy w (some g)) {p : Addr} (hp : p.block = g ∨ a.heap.size ≤ p.block) (u : Value) : a.grownBy (w.setCell p u) (some g) :=
  ⟨h.os, h.tape, h.output, by simpa [World.setCell] using h.size, fun i hi hne => (Below.heap_setCell w p u i (by
    rintro rfl
    rcases hp with hp | hp
    · exact hne (by rw [hp])
    · omega)).trans (h.block i hi hne)⟩
theorem only_iterAt {a w : World} {row : Option Nat} (h : a.grownBy w row) {k : Nat} (hk : a.heap.size ≤ k) (s : ByteArray) (pos : Nat) : a.grownBy (w.iterAt k s pos) row :=
  ⟨h.os, h.tape, h.output, by rw [Lib.iterAt_size]; exact h.size, fun i hi hne => (Lib.iterAt_other w k i s pos (by omega)).trans (h.block i hi hne)⟩
structure EP (s : ByteArray) (w wr : World) (g pos : Nat) (v : Int) : Prop where
  box : Box wr g #[.int .i64 v] 3
  it : wr.heap[w.heap.size]? = some (.stringIter s pos)
  only : w.grownBy wr (some g)
  v0 : 0 ≤ v
  v1 : v ≤ 65535
  eq : portA 0 (btL s) = portA v ((btL s).drop pos)
def EachP (s : ByteArray) (w : World) (g : Nat) (e : Ending) (w' : World) : Prop := ∃ (v : Int) (b : Bool), e = .returned (.bool b) ∧ Box w' g #[.int .i64 v] 3 ∧ w.grownBy w' (some g) ∧ portA 0 (btL s) = (if b then some v else none) ∧ 0 ≤ v
theorem portA_no {v c : Int} {t : List Int} (h : ¬ (48 ≤ c ∧ c ≤ 57 ∧ ¬ (c = 48 ∧ v = 0) ∧ 10 * v + (c - 48) ≤ 65535)) : portA v (c :: t) = none := by unfold portA; rw [if_neg h]
theorem portA_yes {v c : Int} {t : List Int} (h : 48 ≤ c ∧ c ≤ 57 ∧ ¬ (c = 48 ∧ v = 0) ∧ 10 * v + (c - 48) ≤ 65535) : portA v (c :: t) = portA (10 * v + (c - 48)) t := by conv => lhs; unfold portA; rw [if_pos h]
/-- What 'next' gives: a letter of its own, or one that is no ASCII. -/
theorem rune_split (s : ByteArray) (pos : Nat) (h : pos < s.size) : ∃ (rn : Int) (wd : Nat), ((Utf8.decode s pos).1 : Int) = rn ∧ (Utf8.decode s pos).2 = wd ∧ rn ≤ 2147483647 ∧ 1 ≤ wd ∧ pos + wd ≤ s.size ∧ ((rn = (s[pos].toNat : Int) ∧ rn < 128 ∧ wd = 1) ∨ (128 ≤ rn ∧ 128 ≤ (s[pos].toNat : Int))) := by
  have hp := piece s pos h
  have hl := decode_le s pos
  refine ⟨_, _, rfl, rfl, by omega, hp.w1, hp.fits, ?_⟩
  by_cases h1 : s[pos].toNat < 128
  · have := decode_ascii s pos h h1
    left
    rw [this]
    exact ⟨rfl, by simp only; omega, rfl⟩
  · right
    have := decode_high s pos h (by omega)
    exact ⟨by have := this.1; omega, by omega⟩
set_option maxHeartbeats 4000000 in
theorem each_port (s : ByteArray) (g : Nat) (w : World) (hb : Box w g #[.int .i64 0] 3) :
    Calls Tryd.prog 110 #[.string s, .func (.func 114) #[] #[.pointer (some ⟨g, 0, none⟩)]] w (EachP s w g) := by
  have gl := hb.lt
  have HB := Lib.hid hb
  clear hb
  go_enter Tryd.func110, Tryd.ntmps110
  go_wp2
  go_loopw [] (fun wr => ∃ (pos : Nat) (v : Int), pos ≤ s.size ∧ w.heap.size < wr.heap.size ∧ Hid (EP s w wr g pos v)) (fun wr => s.size - wr.iterPos w.heap.size)
  case atStart =>
    refine ⟨0, 0, by omega, by simp [World.iter], Lib.hid ⟨HB.out.alloc _, World.iter_heap w s 0, only_alloc (World.grownBy.refl w _) _, by omega, by omega, by rw [List.drop_zero]⟩⟩
  case round =>
    obtain ⟨pos, v, hp, hsz, HL⟩ := hrel
    by_cases hlt : pos < s.size
    · obtain ⟨rn, wd, h1, h2, h3, h4, h5, h6⟩ := rune_split s pos hlt
      have hnx : ∀ ty, (Instr.next (.pointer (some ⟨w.heap.size, 0, none⟩)) true ty).run Tryd.prog wr = .ok (.tuple #[.bool true, .int .i64 pos, .int .i32 rn]) (wr.iterAt w.heap.size s (pos + wd)) := fun ty => by
        rw [Lib.run_next_any_at wr w.heap.size s pos ty HL.out.it hlt, h1, h2]
      obtain ⟨wi, hwi⟩ : ∃ wi, wr.iterAt w.heap.size s (pos + wd) = wi := ⟨_, rfl⟩
      have bx : Box wi g #[.int .i64 v] 3 := by rw [← hwi]; exact HL.out.box.iterAt (by omega) s _
      have it : wi.heap[w.heap.size]? = some (.stringIter s (pos + wd)) := by rw [← hwi]; exact Lib.iterAt_heap wr w.heap.size s pos (pos + wd) HL.out.it
      have on : w.grownBy wi (some g) := by rw [← hwi]; exact only_iterAt HL.out.only (Nat.le_refl _) s _
      have sz : w.heap.size < wi.heap.size := by rw [← hwi, Lib.iterAt_size]; exact hsz
      rw [hwi] at hnx
      have BX := Lib.hid bx
      have IT := Lib.hid it
      have ON := Lib.hid on
      have v0 := HL.out.v0
      have v1 := HL.out.v1
      have HEQ : Hid (portA 0 (btL s) = portA v ((s[pos].toNat : Int) :: (btL s).drop (pos + 1))) := Lib.hid (by rw [← btL_cons s pos hlt]; exact HL.out.eq)
      have H6 := Lib.hid h6
      clear hwi bx it on h1 h2 h6
      by_cases hd : 48 ≤ rn ∧ rn ≤ 57
      · obtain ⟨hd1, hd2⟩ := hd
        have hr : Hid (rn = (s[pos].toNat : Int) ∧ wd = 1) := Lib.hid (by have := H6.out; omega)
        by_cases h0 : rn = 48 ∧ v = 0
        · obtain ⟨rfl, rfl⟩ := h0
          have HN : Hid (portA 0 (btL s) = none) := Lib.hid (by rw [HEQ.out, ← hr.out.1]; exact portA_no (by omega))
          go_wp2_with fail
          refine (pstep_zero g _ BX.out).mono ?_
          rintro e w2 ⟨rfl, hw⟩
          subst w2
          go_wp2
          go_ret
          exact ⟨0, false, rfl, BX.out, ON.out, HN.out, Int.le_refl _⟩
        · obtain ⟨z, hz⟩ : ∃ z, 10 * v + (rn - 48) = z := ⟨_, rfl⟩
          obtain ⟨b, hbz⟩ : ∃ b, decide (z ≤ 65535) = b := ⟨_, rfl⟩
          have HC : Hid (∀ W, Box W g #[.int .i64 v] 3 → Calls Tryd.prog 114 #[.int .i32 rn, .pointer (some ⟨g, 0, none⟩)] W fun e w' => e = .returned (.bool b) ∧ w' = W.setCell ⟨g, 0, none⟩ (.int .i64 z)) := Lib.hid (fun W hW => pstep_yes rn v z b g W hd1 hd2 h0 v0 v1 hz hbz hW)
          have z0 : 0 ≤ z := by omega
          have HZ := Lib.hid hz
          have HBZ := Lib.hid hbz
          have H0 := Lib.hid h0
          clear hz hbz h0
          go_wp2_with fail
          refine (HC.out _ BX.out).mono ?_
          rintro e w2 ⟨rfl, hw2⟩
          have bx2 : Hid (Box w2 g #[.int .i64 z] 3) := Lib.hid (by rw [hw2]; exact BX.out.set 0 _)
          have on2 : Hid (w.grownBy w2 (some g)) := Lib.hid (by rw [hw2]; exact only_setCell ON.out (Or.inl rfl) _)
          have it2 : w2.heap[w.heap.size]? = some (.stringIter s (pos + wd)) := by rw [hw2]; exact (Below.heap_setCell _ _ _ _ (by show w.heap.size ≠ g; omega)).trans IT.out
          have sz2 : w.heap.size < w2.heap.size := (Array.getElem?_eq_some_iff.1 it2).1
          have IT2 := Lib.hid it2
          clear hw2 it2
          cases b with
          | true =>
            have z1 : z ≤ 65535 := of_decide_eq_true HBZ.out
            go_wp2
            go_roundw
            case rel =>
              refine ⟨pos + wd, z, by omega, sz2, Lib.hid ⟨bx2.out, IT2.out, on2.out, z0, z1, ?_⟩⟩
              rw [HEQ.out, ← hr.out.1, portA_yes ⟨hd1, hd2, H0.out, by rw [HZ.out]; exact z1⟩, HZ.out, hr.out.2]
            case measure =>
              simp only [World.iterPos, IT2.out, HL.out.it]
              omega
          | false =>
            have z1 : ¬ z ≤ 65535 := of_decide_eq_false HBZ.out
            have HN : Hid (portA 0 (btL s) = none) := Lib.hid (by rw [HEQ.out, ← hr.out.1]; exact portA_no (by have := HZ.out; omega))
            go_wp2
            go_ret
            exact ⟨z, false, rfl, bx2.out, on2.out, HN.out, z0⟩
      · have HN : Hid (portA 0 (btL s) = none) := Lib.hid (by rw [HEQ.out]; exact portA_no (by have := H6.out; omega))
        have HD := Lib.hid hd
        clear hd
        go_wp2_with fail
        refine (pstep_none rn v g _ HD.out BX.out).mono ?_
        rintro e w2 ⟨rfl, hw⟩
        subst w2
        go_wp2
        go_ret
        exact ⟨v, false, rfl, BX.out, ON.out, HN.out, v0⟩
    · have hnx : ∀ ty, (Instr.next (.pointer (some ⟨w.heap.size, 0, none⟩)) true ty).run Tryd.prog wr = _ := fun ty => Lib.run_next_end_at wr w.heap.size s pos ty HL.out.it hlt
      have HN : Hid (portA 0 (btL s) = some v) := Lib.hid (by
        rw [HL.out.eq, List.drop_eq_nil_of_le (by simp; omega)]
        rfl)
      go_wp2
      go_ret
      exact ⟨v, true, rfl, HL.out.box, HL.out.only, HN.out, HL.out.v0⟩
end Go.Proofs.YtcdodpkfhkfnkaaDoor
