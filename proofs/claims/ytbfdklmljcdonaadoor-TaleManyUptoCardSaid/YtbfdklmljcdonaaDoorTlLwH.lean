/- The law's line of a step. Written by gen_law.py. -/
import Derived.Test.YtbfdklmljcdonaaDoorTlDig
namespace Go.Proofs.YtbfdklmljcdonaaDoor
open Go Go.RowKit
set_option linter.unusedVariables false
set_option linter.unusedSimpArgs false
set_option maxRecDepth 10000

def jT (ws : List Bt) : Bt := Lib.joinTail [32] ws
theorem jT_app (a b : List Bt) : jT (a ++ b) = jT a ++ jT b := by unfold jT Lib.joinTail; rw [List.map_append, List.flatten_append]
theorem jT_one (a : Bt) : jT [a] = 32 :: a := by unfold jT Lib.joinTail; simp
theorem lineK {x : Sp} {f : Fm} (hf : f ∈ fms) (hk : f.kind = x.kind) (hc : covB f x = true) : lineS x = some (f.word ++ jT (((numsS x).take f.n).map Lib.itoa ++ ((if f.text then [hexW x.text] else []) ++ hdW x.hs))) := by
  rw [line_of hf hk hc]
  unfold wordsS
  rw [Lib.join_cons]
  rfl
theorem lineK_no {x : Sp} {f : Fm} (hf : f ∈ fms) (hk : f.kind = x.kind) (hc : covB f x = false) : lineS x = none := by
  cases h : lineS x with
  | none => rfl
  | some l =>
    obtain ⟨g, hg, h1, h2, _⟩ := line_some h
    rw [fms_kind g hg f hf (by rw [h1, hk]), hc] at h2
    cases h2
def LwP (x : Stp) (w : World) (e : Ending) (w' : World) : Prop :=
  Below w.heap.size w w' ∧ ((lineS (spOf x) = none ∧ e = .returned (.tuple #[.string ⟨#[]⟩, .bool false])) ∨ (∃ l, lineS (spOf x) = some (bl l) ∧ e = .returned (.tuple #[.string l, .bool true])))
/-- One word more. -/
theorem add_word (l u : ByteArray) (B : Nat) (hl : l.size ≤ B) (hu : u.size ≤ 9000000) (hB : B ≤ 9000000000000000000) :
    ∃ s t, (∀ w : World, (Op.stringOp .add ⟨#[32]⟩ u).run Tryd.prog w = .ok (.string s) w) ∧ (∀ w : World, (Op.stringOp .add l s).run Tryd.prog w = .ok (.string t) w) ∧ bl t = bl l ++ jT [bl u] ∧ t.size ≤ B + 9000001 := by
  obtain ⟨s, hs⟩ : ∃ s, (⟨#[32]⟩ : ByteArray) ++ u = s := ⟨_, rfl⟩
  obtain ⟨t, ht⟩ : ∃ t, l ++ s = t := ⟨_, rfl⟩
  have h1 : s.size = 1 + u.size := by rw [← hs, ByteArray.size_append]; rfl
  have h2 : t.size = l.size + s.size := by rw [← ht, ByteArray.size_append]
  refine ⟨s, t, fun w => by rw [run_string_add_sum w _ _ (by rw [show (⟨#[32]⟩ : ByteArray).size = 1 from rfl]; omega), hs], fun w => by rw [run_string_add_sum w _ _ (by omega), ht], ?_, by omega⟩
  rw [jT_one, ← ht, ← hs]
  simp [bl]
/-- Two words more, as the round of the headers adds them. -/
theorem add_two (l u v : ByteArray) (B : Nat) (hl : l.size ≤ B) (hu : u.size ≤ 9000000) (hv : v.size ≤ 9000000) (hB : B ≤ 9000000000000000000) :
    ∃ s s2 s3 t, (∀ w : World, (Op.stringOp .add ⟨#[32]⟩ u).run Tryd.prog w = .ok (.string s) w) ∧ (∀ w : World, (Op.stringOp .add s ⟨#[32]⟩).run Tryd.prog w = .ok (.string s2) w) ∧ (∀ w : World, (Op.stringOp .add s2 v).run Tryd.prog w = .ok (.string s3) w) ∧ (∀ w : World, (Op.stringOp .add l s3).run Tryd.prog w = .ok (.string t) w) ∧ bl t = bl l ++ jT [bl u, bl v] ∧ t.size ≤ B + 18000002 := by
  obtain ⟨s, hs⟩ : ∃ s, (⟨#[32]⟩ : ByteArray) ++ u = s := ⟨_, rfl⟩
  obtain ⟨s2, hs2⟩ : ∃ t, s ++ (⟨#[32]⟩ : ByteArray) = t := ⟨_, rfl⟩
  obtain ⟨s3, hs3⟩ : ∃ t, s2 ++ v = t := ⟨_, rfl⟩
  obtain ⟨t, ht⟩ : ∃ t, l ++ s3 = t := ⟨_, rfl⟩
  have h0 : (⟨#[32]⟩ : ByteArray).size = 1 := rfl
  have h1 : s.size = 1 + u.size := by rw [← hs, ByteArray.size_append]; rfl
  have h2 : s2.size = s.size + 1 := by rw [← hs2, ByteArray.size_append]; rfl
  have h3 : s3.size = s2.size + v.size := by rw [← hs3, ByteArray.size_append]
  have h4 : t.size = l.size + s3.size := by rw [← ht, ByteArray.size_append]
  refine ⟨s, s2, s3, t, fun w => by rw [run_string_add_sum w _ _ (by omega), hs], fun w => by rw [run_string_add_sum w _ _ (by omega), hs2], fun w => by rw [run_string_add_sum w _ _ (by omega), hs3], fun w => by rw [run_string_add_sum w _ _ (by omega), ht], ?_, by omega⟩
  rw [show ([bl u, bl v] : List Bt) = [bl u] ++ [bl v] from rfl, jT_app, jT_one, jT_one, ← ht, ← hs3, ← hs2, ← hs]
  simp [bl]
end Go.Proofs.YtbfdklmljcdonaaDoor
