/- Slices of bytes in a slice, that came in; what a crash leaves of one segment. -/
import Derived.Test.YtomeipjglnpciaaDkAwk
import Derived.Test.YtomeipjglnpciaaDeep
import Derived.Test.YtomeipjglnpciaaFrame
namespace Go.Proofs.Ytomeipjglnpciaa
open Go Go.RowKit
open Go.Joins Go.Deep Go.WideShapes
set_option linter.unusedVariables false
set_option maxRecDepth 100000
/-- A slice of bytes that came in. -/
def RdS (w : World) (v : Value) : Prop := ∃ (a : Option Addr) (l c : Nat) (zs : List Int), v = .slice a l c ∧ zs.length = l ∧ Byts zs ∧ RdC w a (u8L zs)
def IsLst (w : World) (x : Option Addr × Nat × Nat) : Prop :=
  ∃ b off, (0 < x.2.1 → x.1 = some ⟨b, off, none⟩) ∧ x.2.1 ≤ maxLen ∧ ∀ i, i < x.2.1 → ∃ v, w.cell? ⟨b, off + i, none⟩ = some v ∧ RdS w v
section
variable {H : Type} {enc : TypeId × Value → H} {w : World} {base b0 : Nat} {held : Bool} {rr : Reach}
theorem rds_of {a : Option Addr} {len cap : Nat} (h : Fits enc Try.prog w base (fun _ => true) held 27 [.slice a len cap]) : RdS w (.slice a len cap) := by
  obtain ⟨C, ⟨rfl, rfl, rfl⟩ | ⟨x, rfl, hl, hm, hx⟩⟩ := h.elems Try.underlying27 (n := 1) (by kernel_rfl)
  · exact ⟨none, 0, 0, [], rfl, rfl, Byts.nil, fun j u hj => by simp [u8L] at hj⟩
  · by_cases h0 : 0 < cap
    · obtain ⟨b, off, rfl, hc⟩ := plain_at (by decide) (fun i hi => ⟨(hx i hi).1, (hx i hi).2.2⟩) h0
      have key : ∀ i, i < cap → ∃ z : Int, (C i)[0]? = some (.int .u8 z) ∧ 0 ≤ z ∧ z < 256 := fun i hi => by
        obtain ⟨n, y, hf⟩ := (hx i hi).2.1
        obtain ⟨z, hz, _, hw⟩ := DataW.trod_int Try.underlying5 hf
        refine ⟨z, by rw [hz]; rfl, ?_⟩
        have : 0 ≤ z ∧ z ≤ 255 := by
          simp [Lit.wf, IntKind.min, IntKind.max, IntKind.signed, IntKind.bits] at hw
          omega
        omega
      let Z : Nat → Int := fun i => if hi : i < cap then Classical.choose (key i hi) else 0
      have hZ : ∀ i, i < cap → (C i)[0]? = some (.int .u8 (Z i)) ∧ 0 ≤ Z i ∧ Z i < 256 := fun i hi => by
        simp only [Z, dif_pos hi]
        exact Classical.choose_spec (key i hi)
      refine ⟨_, len, cap, (List.range len).map Z, rfl, by simp, fun c hc' => ?_, fun j u hj => ⟨b, off, rfl, ?_⟩⟩
      · obtain ⟨i, hi, rfl⟩ := List.mem_map.1 hc'
        exact (hZ i (by have := List.mem_range.1 hi; omega)).2
      · unfold u8L at hj
        rw [List.getElem?_map, List.getElem?_map] at hj
        have hjl : j < len := Nat.lt_of_not_le fun hn => by
          rw [List.getElem?_eq_none (l := List.range len) (by simp; omega)] at hj
          simp at hj
        rw [List.getElem?_range hjl] at hj
        have hu : u = .int .u8 (Z j) := (Option.some.inj hj).symm
        rw [hu]
        have := hc j (by omega) 0 _ (hZ j (by omega)).1
        simpa using this
    · obtain rfl : cap = 0 := by omega
      obtain rfl : len = 0 := by omega
      exact ⟨_, 0, 0, [], rfl, rfl, Byts.nil, fun j u hj => by simp [u8L] at hj⟩
end
theorem conv_rdc {w : World} {a : Option Addr} {l c : Nat} {zs : List Int} (h : RdC w a (u8L zs)) (hl : zs.length = l) : (convert 27 9 (.slice a l c)).run Try.prog w = .ok (.string (strL zs)) w := by
  subst hl
  by_cases h0 : zs = []
  · subst h0
    cases a with
    | none => exact run_convert_bytes_nil w _ _ Try.underlying27 Try.underlying5 _ _ _ Try.underlying9
    | some x => exact run_convert_bytes_back w _ _ _ x c [] Try.underlying27 Try.underlying5 Try.underlying9 (fun j hj => by simp at hj)
  · have hp : 0 < zs.length := List.length_pos_iff.2 h0
    obtain ⟨b, off, rfl, _⟩ := h 0 (.int .u8 zs[0]) (by unfold u8L; simp [hp])
    refine run_convert_bytes_arg w _ _ Try.underlying27 Try.underlying5 b off zs.length c zs rfl (fun i hi => ?_) _ Try.underlying9
    obtain ⟨b2, off2, e, hc⟩ := h i (.int .u8 zs[i]) (by unfold u8L; simp [hi])
    injection e with e
    injection e with e1 e2 _
    subst e1 e2
    rw [hc, List.getD_eq_getElem?_getD, List.getElem?_eq_getElem hi]
    rfl
theorem strL_take (A : List Int) (m : Nat) : strL (A.take m) = (strL A).extract 0 m := by
  apply ByteArray.ext
  simp [strL, ByteArray.extract, ByteArray.copySlice]
theorem strL_app (A B : List Int) : strL (A ++ B) = strL A ++ strL B := by
  apply ByteArray.ext
  simp [strL]
/-- What a crash leaves of one segment. -/
theorem crash_one : ∀ (un : Pcs) (k : Int) (A : List Int), (∀ p ∈ un, p.1 = 7) → loose un 7 ≤ A.length → crash k [(7, A)] un = [(7, A.take (A.length - loose un 7 + (max 0 (min k (loose un 7 : Nat))).toNat))]
  | [], k, A, _, _ => by
    have e : (max 0 (min k ((loose [] 7 : Nat) : Int))).toNat = 0 := by unfold loose; omega
    rw [e, crash]
    simp [loose]
  | (g, z) :: t, k, A, hg, hl => by
    have hg7 : g = 7 := hg (g, z) List.mem_cons_self
    subst hg7
    rw [loose, if_pos rfl] at hl
    have hk := keptN_le k z
    have hki := keptN_int k z
    have e1 : cut1 k [(7, A)] (7, z) = [(7, A.take (A.length - (z - keptN k z)))] := rfl
    rw [crash, e1, crash_one t _ _ (fun p hp => hg p (List.mem_cons_of_mem _ hp)) (by rw [List.length_take]; omega)]
    rw [loose, if_pos rfl, List.take_take, List.length_take]
    congr 3
    dsimp only
    omega
end Go.Proofs.Ytomeipjglnpciaa
