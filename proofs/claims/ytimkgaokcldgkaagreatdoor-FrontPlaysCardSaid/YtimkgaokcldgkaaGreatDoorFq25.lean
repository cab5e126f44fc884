/- Part of a chain: DkSeg. -/
import Derived.Test.YtimkgaokcldgkaaGreatDoorFq22
import Derived.Test.YtimkgaokcldgkaaGreatDoorFq20
import Derived.Shelf.AbstractIn
/- Package disk: Segs. -/
namespace Go.Proofs.YtimkgaokcldgkaaGreatDoor
open Go Go.RowKit Go.Maps Go.Sort Go.Shelf
set_option linter.unusedVariables false
set_option linter.unusedSimpArgs false
set_option maxRecDepth 10000

theorem sortsD (m : Nat) : AnyZI.SortsIn Tryz.prog Tryz.sortedA_ren Fence.wide m :=
  ⟨fun blk off cap ss W hH hblk hsz => callsIn_wide.2 (AnyM.slices_Sort_int Tryz.sortA blk off cap ss W hH hblk hsz),
   fun p cap W => callsIn_wide.2 (AnyM.slices_Sort_int_none Tryz.sortA p cap W)⟩
def SegsP (S : Sgs) (n : Nat) (w : World) (e : Ending) (w' : World) : Prop := ∃ a c, e = .returned (.slice a n c) ∧ Own w' w.heap.size 3 1 a n c (S.map fun p => .int .i64 p.1) ∧ Below w.heap.size w w'
theorem sorted_keys {S : Sgs} (h : SS S) {ss : List Int} (hp : ss.Perm (S.map Prod.fst)) : ss.mergeSort (fun x y => decide (x ≤ y)) = S.map Prod.fst := by
  rw [mergeSort_of_perm_i hp]
  exact List.mergeSort_of_pairwise (keys_sorted h)
set_option maxHeartbeats 1000000 in
theorem segs_at {w : World} {B d bm uc : Nat} {S : Sgs} {V : VF} {ua : Option Addr} {un : Pcs} {most beh fal : Int} (h : Dm w B d bm S V ua uc un most beh fal) (n : Nat) (hn : S.length = n) :
    Calls Tryz.prog 25 #[.pointer (some ⟨d, 0, none⟩)] w (SegsP S n w) := by
  obtain ⟨D0, nn, hown, hsz, hperm⟩ := h.mp.size
  have hcnt := h.cnt
  have hss := Lib.hid h.mp.ss
  have HP := Lib.hid hperm
  have c1 := h.box.cell 1
  have ld := h.box.lt
  clear h hperm
  refine (callsIn_wide (n := 6)).1 ?_
  have hbl := hown.lt
  have hseq : SeqGives Fence.wide 2 Tryz.prog 63 #[.pointer (some ⟨w.heap.size, 0, none⟩)] encZ (fun ss => ss.Perm (intKeys D0)) (Maps.size D0) (w.alloc (.cells #[.map (some bm)] 67)) :=
    AnyZI.keys_gives (ρ := Tryz.keysA_ren) { Tryz.keysA with } Fence.wide _ trivial rfl (by omega) w.heap.size bm nn D0 _ (by simp) (by simp) (by
      obtain ⟨es, clock, hb, Ft, hs, hD⟩ := hown
      exact ⟨es, clock, (Below.heap_alloc _ _ bm hbl).trans hb, Ft, hs, hD⟩)
  have cK : ∀ mb W, CallsIn Fence.wide 5 Tryz.prog 41 #[.map mb] W fun e w' => e = .returned (.func (.func 63) #[] #[.pointer (some ⟨W.heap.size, 0, none⟩)]) ∧ w' = W.alloc (.cells #[.map mb] 67) := fun mb W => AnyZI.keys_in Tryz.keysA Fence.wide 5 trivial rfl mb W
  have cS := AnyZI.sorted_in Tryz.sortedA Fence.wide 5 trivial trivial trivial trivial rfl (by omega) (sortsD _) (enters_of Tryz.func62 (by kernel_rfl) rfl) 63 #[.pointer (some ⟨w.heap.size, 0, none⟩)] trivial (enters_of Tryz.func63 (by kernel_rfl) rfl) _ _ (by rw [hsz]; unfold maxLen; omega) (by rw [hsz]; omega) _ hseq
  change CallsIn _ _ Tryz.prog 40 _ _ _ at cS
  have hfK : Fence.wide.fn 41 := trivial
  have hfS : Fence.wide.fn 40 := trivial
  refine callsIn_of_wp Tryz.func25 rfl trivial ?_ rfl
  simp only [Tryz.ntmps25, List.size_toArray, List.length_cons, List.length_nil, Nat.reduceAdd, Nat.reduceSub, Array.replicate_succ, Array.replicate_zero, List.push_toArray, List.append_toArray, List.nil_append, List.cons_append]
  gi_wp2_with (first
    | (gi_at_call 41; refine (cK _ _).mono ?_; rintro e w' ⟨rfl, rfl⟩)
    | (gi_at_call 40; refine cS.mono ?_; rintro e w' ⟨v, ss, rfl, hS, hrow, hnil, hb⟩))
  go_ret
  have hp2 := hS.trans HP.out.symm
  have hl : ss.length = n := by rw [hp2.length_eq, List.length_map, hn]
  rw [sorted_keys hss.out hp2, hl] at hrow
  obtain ⟨a, c, rfl⟩ := own_parts (ownsRow_base_a hrow (by simp : w.heap.size ≤ _))
  refine ⟨a, c, rfl, ?_, ((Below.refl _ w).alloc (Nat.le_refl _) _).trans (hb.mono (by simp))⟩
  have := ownsRow_base_a hrow (by simp : w.heap.size ≤ _)
  rw [List.map_map] at this
  exact this
end Go.Proofs.YtimkgaokcldgkaaGreatDoor
