/- Cuts of a text: the library's, and the program's ahead of a sign. -/
import Derived.Test.YtcdodpkfhkfnkaaDoorUrEach
import Derived.Test.YtcdodpkfhkfnkaaDoorShelfU
import Derived.Test.YtcdodpkfhkfnkaaDoorPcRef
namespace Go.Proofs.YtcdodpkfhkfnkaaDoor
open Go.RowKit
set_option linter.unusedVariables false
set_option linter.unusedSimpArgs false
set_option maxRecDepth 10000

/-- The tables of utf8, and that bytealg's bound holds some number. -/
def TabsM (w : World) : Prop := Tabs w ∧ ∃ m, w.cell? ⟨2, 0, none⟩ = some (.int .i64 m)
theorem TabsM.later {w w' : World} (h : TabsM w) (hb : Below w.heap.size w w') : TabsM w' :=
  ⟨h.1.later hb, h.2.elim fun m hm => ⟨m, (hb.cell (World.block_lt_of_cell? _ _ hm)).trans hm⟩⟩
theorem iv_byts (l : List UInt8) : Byts (iv l) := btL_byts ⟨l.toArray⟩
/-- strings.Cut at one sign. -/
theorem cut1_at (s : ByteArray) (u : UInt8) (c : Int) (k : Nat) (hc : (u.toNat : Int) = c) (hk : fndI [c] (btL s) = k) (hs : s.size ≤ 100000) (w : World) (hT : TabsM w) :
    Calls Tryd.prog 53 #[.string s, .string ⟨#[u]⟩] w fun e w' => e = .returned (.tuple #[.string (strL ((btL s).take k)), .string (strL ((btL s).drop (k + 1))), .bool (decide (k < s.size))]) ∧ Below w.heap.size w w' := by
  obtain ⟨m, hm⟩ := hT.2
  subst hc
  subst hk
  refine (Any.strings_Cut Tryd.lays145 s ⟨#[u]⟩ m w (by omega) hm).mono ?_
  rintro e w' ⟨rfl, n, rfl⟩
  refine ⟨?_, below_drewN (Below.refl _ _) n⟩
  have h := cut_fnd s.data.toList u
  rw [show (({ data := #[u] } : ByteArray)).data.toList = [u] from rfl, h, mk_iv, mk_iv, iv_take, iv_drop, ← iv_bt, ← Lib.size_eq]
/-- strings.Cut behind the scheme. -/
def SchO (s : ByteArray) (w : World) (e : Ending) (w' : World) : Prop := ∃ (b r : ByteArray) (f : Bool), e = .returned (.tuple #[.string b, .string r, .bool f]) ∧ b.size ≤ s.size ∧ r.size ≤ s.size ∧ Below w.heap.size w w' ∧
  (schA (btL s) = none → schP (btL b) f = false) ∧ (∀ sec q, schA (btL s) = some (sec, q) → f = true ∧ (btL b).map lwI = schI sec ∧ r = strL q)
theorem cutm_at (s : ByteArray) (hs : s.size ≤ 100000) (w : World) (hT : TabsM w) :
    Calls Tryd.prog 53 #[.string s, .string ⟨#[58, 47, 47]⟩] w (SchO s w) := by
  obtain ⟨m, hm⟩ := hT.2
  refine (Any.strings_Cut Tryd.lays145 s ⟨#[58, 47, 47]⟩ m w (by omega) hm).mono ?_
  rintro e w' ⟨rfl, n, rfl⟩
  rw [show (({ data := #[58, 47, 47] } : ByteArray)).data.toList = [58, 47, 47] from rfl]
  refine ⟨_, _, _, rfl, ?_, ?_, below_drewN (Below.refl _ _) n, fun h => ?_, fun sec q h => ?_⟩
  · show (List.toArray _).size ≤ _
    rw [List.size_toArray]
    unfold Lib.cut
    rw [Lib.size_eq s]
    split
    · exact List.length_take_le' _ _
    · exact Nat.le_refl _
  · show (List.toArray _).size ≤ _
    rw [List.size_toArray]
    unfold Lib.cut
    rw [Lib.size_eq s]
    split
    · simp only [List.length_drop]; omega
    · simp
  · rw [mk_iv, btL_strL (iv_byts _)]
    exact sch_none h
  · obtain ⟨b, h1, h2, h3⟩ := sch_some h
    rw [h1]
    refine ⟨rfl, ?_, ?_⟩
    · rw [mk_iv, btL_strL (iv_byts _)]
      exact h2
    · rw [h3, mk_iv]
end Go.Proofs.YtcdodpkfhkfnkaaDoor
