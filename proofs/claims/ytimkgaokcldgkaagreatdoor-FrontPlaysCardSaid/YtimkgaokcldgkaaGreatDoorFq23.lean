/- Part of a chain: DkRd. -/
import Derived.Test.YtimkgaokcldgkaaGreatDoorFq22
import Derived.Laws.IdiomCopy
import Derived.Deep.OwnRows
/- Package disk: Read. -/
namespace Go.Proofs.YtimkgaokcldgkaaGreatDoor
open Go Go.RowKit Go.Maps
set_option linter.unusedVariables false
set_option linter.unusedSimpArgs false
set_option maxRecDepth 10000

theorem infoU : (Tryz.prog.info? 5).map (fun i => (i.zero, i.size, i.bytes)) = some (some (.int .u8 0), 1, 1) := by kernel_rfl
theorem sizeU : (Tryz.prog.info? 5).map (·.size) = some 1 := by kernel_rfl
theorem copyU {w : World} {B B0 g n c : Nat} {a : Option Addr} {b : List Int} {cur : Array Value} (hb : b.length = n) (hg : Box w g cur 5) (hsz : cur.size = n) (ho : Own w B 5 1 a n c (u8L b)) (hm : n ≤ maxLen) (hB : B0 ≤ g) (ty : TypeId) :
    ∃ w', (Builtin.copy_ #[55, 55] ty #[.slice (some ⟨g, 0, none⟩) n n, .slice a n c]).run Tryz.prog w = .ok (.int .i64 n) w' ∧ Own w' B0 5 1 (some ⟨g, 0, none⟩) n n (u8L b) ∧ w.grownBy w' (some g) := by
  by_cases h0 : n = 0
  · subst h0
    obtain rfl : b = [] := List.eq_nil_of_length_eq_zero hb
    exact ⟨w, run_copy_none w _ _ _ 5 _ _ _ _ _ _ Tryz.underlying55 sizeU rfl, Own.of_block hg (by rw [hsz]) (by simp [u8L]) (Nat.le_refl _) hm hB, World.grownBy.refl _ _⟩
  · obtain ⟨g2, rfl, _⟩ := ho.some_ (by omega)
    have hl : (u8L b).length = n := by simp [u8L, hb]
    refine ⟨_, run_copy_rowN w 55 55 _ 5 1 g 0 n n ⟨g2, 0, none⟩ n c cur 5 (u8L b) n Tryz.underlying55 sizeU hg (Nat.min_self n) (by rw [hl]; omega) (fun j v hj => by rw [Go.WideShapes.add_plain, Nat.zero_add]; exact ho.cell hj) (by rw [hl]; omega) (u8L_one b), ?_, ?_⟩
    · refine Own.of_block (setRow_heap _ _ _ _ _ _ hg) ?_ ?_ (Nat.le_refl _) hm hB
      · simp [hl, hsz]
      · simp [hl, List.drop_eq_nil_of_le, hsz]
        exact List.take_of_length_le (by omega)
    · exact ⟨rfl, rfl, rfl, by simp, fun k _ hk => setRow_other w g k _ (fun e => hk (by rw [e]))⟩
def ReadP (S : Sgs) (n : Int) (w : World) (e : Ending) (w' : World) : Prop :=
  (gS S n = none ∧ e = .returned (.tuple #[.slice none 0 0, .int .i64 4]) ∧ Below w.heap.size w w') ∨
  ((gS S n).isSome = true ∧ ∃ a c, e = .returned (.tuple #[.slice a (gD S n).length c, .int .i64 0]) ∧ Own w' w.heap.size 5 1 a (gD S n).length c (u8L (gD S n)) ∧ Below w.heap.size w w')
set_option maxHeartbeats 2000000 in
theorem read_at {w : World} {B d bm uc : Nat} {S : Sgs} {V : VF} {ua : Option Addr} {un : Pcs} {most beh fal : Int} (h : Dm w B d bm S V ua uc un most beh fal) (n : Int) (hn : (Lit.int .i64 n).wf = true) :
    Calls Tryz.prog 37 #[.pointer (some ⟨d, 0, none⟩), .int .i64 n] w (ReadP S n w) := by
  have LK := h.mp.look_ok n hn
  have OW := Lib.hid (lk_own h.mp n)
  have c1 := h.box.cell 1
  have ld := h.box.lt
  have hs2 := h.seg n
  cases hg : gS S n with
  | none =>
    have e0 : gD S n = [] := by unfold gD; rw [hg]; rfl
    have e1 : lkA S V n = none := by unfold lkA; rw [hg]; rfl
    have e2 : lkC S V n = 0 := by unfold lkC; rw [hg]; rfl
    rw [hg, e0, e1, e2] at LK
    have FIN : Hid (ReadP S n w (.returned (.tuple #[.slice none 0 0, .int .i64 4])) w) := Lib.hid (Or.inl ⟨hg, rfl, Below.refl _ _⟩)
    clear h OW hs2 hg e0 e1 e2
    go_enter Tryz.func37, Tryz.ntmps37
    go_wp2
    exact bodyPost_ret (v := .tuple #[.slice none 0 0, .int .i64 4]) (by simp [results, Tryz.results37, go_sem]) rfl FIN.out
  | some b =>
    have e0 : gD S n = b := by unfold gD; rw [hg]; rfl
    rw [hg] at LK
    obtain ⟨m, hm⟩ : ∃ m, (gD S n).length = m := ⟨_, rfl⟩
    obtain ⟨A, hA⟩ : ∃ A, lkA S V n = A := ⟨_, rfl⟩
    obtain ⟨C, hC⟩ : ∃ C, lkC S V n = C := ⟨_, rfl⟩
    rw [hA, hC] at OW LK
    rw [hm] at OW LK hs2
    have hmk := fun (kl kc : IntKind) => run_make_row' (P := Tryz.prog) 55 5 (.int .u8 0) 1 Tryz.underlying55 infoU rfl kl kc m (by omega) (by omega) w
    have FIN : Hid (∀ w', Own w' w.heap.size 5 1 (some ⟨w.heap.size, 0, none⟩) m m (u8L (gD S n)) → Below w.heap.size w w' → ReadP S n w (.returned (.tuple #[.slice (some ⟨w.heap.size, 0, none⟩) m m, .int .i64 0])) w') := Lib.hid (fun w' h1 h2 => Or.inr ⟨by rw [hg]; rfl, _, m, by rw [hm], by rw [hm]; exact h1, h2⟩)
    have BX := Lib.hid (Box.new w (madeCells #[.int .u8 0] m) 5)
    have BB := Lib.hid ((Below.refl w.heap.size w).alloc (Nat.le_refl _) (.cells (madeCells #[.int .u8 0] m) 5))
    have CP := Lib.hid (copyU (B0 := w.heap.size) hm BX.out (size_madeCells _ _) (OW.out.alloc _) (by unfold maxLen; omega) (Nat.le_refl _))
    clear h hg e0 hA hC
    go_enter Tryz.func37, Tryz.ntmps37
    go_upto_region 7 with fail
    obtain ⟨w1, hw1⟩ : ∃ W, w.alloc (.cells (madeCells #[.int .u8 0] m) 5) = W := ⟨_, rfl⟩
    obtain ⟨g, hg⟩ : ∃ g, w.heap.size = g := ⟨_, rfl⟩
    rw [hw1] at BX BB CP ⊢
    obtain ⟨w2, q1, q2, q3⟩ := CP.out 3
    rw [hg] at BX BB CP FIN q1 q2 q3 ⊢
    have FF := Lib.hid (FIN.out w2 q2 (BB.out.grown q3 (by rw [← hg]; exact Nat.le_of_lt (hg ▸ BX.out.lt)) (fun k hk => by injection hk with hk; omega)))
    clear q2 q3 BX BB CP FIN hmk LK OW
    go_wp2_with (at_builtin; refine wpList_copyN _ rfl _ _ 55 55 rfl _ _ rfl rfl q1 ?_)
    go_wp2
    exact bodyPost_ret (v := .tuple #[.slice (some ⟨g, 0, none⟩) m m, .int .i64 0]) (by simp [results, Tryz.results37, go_sem]) rfl FF.out
end Go.Proofs.YtimkgaokcldgkaaGreatDoor
