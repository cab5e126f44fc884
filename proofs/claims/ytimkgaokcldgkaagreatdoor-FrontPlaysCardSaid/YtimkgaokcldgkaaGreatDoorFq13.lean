/- Part of a chain: QuAll. -/
import Derived.Test.YtimkgaokcldgkaaGreatDoorFq12
import Derived.Deep.Upon
/- Package queue: All. -/
namespace Go.Proofs.YtimkgaokcldgkaaGreatDoor
open Go Go.RowKit
set_option linter.unusedVariables false
set_option linter.unusedSimpArgs false
set_option maxRecDepth 10000

theorem nilQ (W : World) : (binOp .eql 38 (.slice none 0 0) (.slice none 0 0)).run Tryz.prog W = .ok (.bool true) W := by
  first | kernel_rfl | (simp [go_sem, binOp, Tryz.underlying38])
theorem somQ (g n c : Nat) (W : World) : (binOp .eql 38 (.slice (some ⟨g, 0, none⟩) n c) (.slice none 0 0)).run Tryz.prog W = .ok (.bool false) W := by
  first | kernel_rfl | (simp [go_sem, binOp, Tryz.underlying38])
theorem run_app0Q {P : Program} {T E : TypeId} {size bytes : Nat} (hT : RowTy P T E size bytes) (ty : TypeId) (a : Option Addr) (n cap : Nat) (hle : n ≤ cap) (a2 : Option Addr) (c2 : Nat) (w : World) :
    (Builtin.append_ #[T, T] ty #[.slice a n cap, .slice a2 0 c2]).run P w = .ok (.slice a n cap) w := by
  obtain ⟨i, z, hi, hz, hs, hb, hzs⟩ := hT.parts
  refine run_append_nothing w T T ty E i hT.und hi a n cap hle _ ?_
  cases a2 with
  | none => exact Src.ofNil w hT.und c2
  | some p => exact Src.ofSlice w hT.und p 0 c2 [] (by simp) (fun j u hj => by simp at hj) (fun u hu => by cases hu)
def AllP (rs : List Rq) (n : Nat) (w : World) (e : Ending) (w' : World) : Prop := ∃ a2 c2, e = .returned (.slice a2 n c2) ∧ Own w' w.heap.size 35 5 a2 n c2 (rqC rs) ∧ Below w.heap.size w w'
set_option maxHeartbeats 2000000 in
theorem qclone_at {w : World} {B n cap : Nat} {a : Option Addr} {rs : List Rq} (ho : Own w B 35 5 a n cap (rqC rs)) (hn2 : n ≤ 999999) :
    Calls Tryz.prog 58 #[.slice a n cap] w (AllP rs n w) := by
  have hlen := ho.len
  rw [rqC_len] at hlen
  rcases ho.form with ⟨rfl, rfl, rfl⟩ | ⟨g, rfl, hgB, hgw⟩
  · obtain rfl : rs = [] := List.eq_nil_of_length_eq_zero (by omega)
    clear ho
    have HNL := fun W => nilQ W
    go_enter Tryz.func58, Tryz.ntmps58
    go_wp2
    go_ret
    exact ⟨none, 0, rfl, Own.nil _ _ _ _, Below.refl _ _⟩
  · have HO := Lib.hid (ho.alloc (.cells #[] 35))
    have OL : Hid (Own (w.alloc (.cells #[] 35)) w.heap.size 35 5 (some ⟨w.heap.size, 0, none⟩) 0 0 []) := Lib.hid (Own.lit (cs := #[]) (Nat.le_refl _) (by omega) rfl)
    have BB := Lib.hid ((Below.refl w.heap.size w).alloc (Nat.le_refl _) (.cells #[] 35))
    by_cases h0 : n = 0
    · subst h0
      obtain rfl : rs = [] := List.eq_nil_of_length_eq_zero (by omega)
      clear ho
      have HNL := fun n c W => somQ g n c W
      go_enter Tryz.func58, Tryz.ntmps58
      go_wp2_with (at_builtin; refine Lib.wpList_append_run _ rfl _ _ _ _ rfl _ _ rfl rfl _ _ (run_app0Q rowQu _ _ _ _ (Nat.le_refl _) _ _ _) ?_)
      go_ret
      exact ⟨_, 0, rfl, OL.out, BB.out⟩
    · clear ho
      have RD : Hid (∀ j u, (rqC rs)[j]? = some u → (w.alloc (.cells #[] 35)).cell? ⟨g, 0 + j, none⟩ = some u) := Lib.hid (fun j u hj => by rw [Nat.zero_add]; exact HO.out.cell hj)
      have FIN : Hid (∀ g' cap' w', Own w' w.heap.size 35 5 (some ⟨g', 0, none⟩) n cap' (rqC rs) → Below w.heap.size (w.alloc (.cells #[] 35)) w' → AllP rs n w (.returned (.slice (some ⟨g', 0, none⟩) n cap')) w') := Lib.hid (fun g' cap' w' q1 q3 => ⟨_, _, rfl, q1, BB.out.trans q3⟩)
      have HNL := fun n c W => somQ g n c W
      go_enter Tryz.func58, Tryz.ntmps58
      go_wp2_with (at_builtin; refine wpList_appR rowQu rfl _ _ rfl w.heap.size (some ⟨w.heap.size, 0, none⟩) 0 0 [] rfl OL.out g 0 n cap (rqC rs) rfl (by omega) (by rw [rqC_len]; omega) RD.out (rqC_one rs) (by omega) (by decide) (by simp) n (by omega) (rqC rs) rfl ?_; rintro g' cap2 w3 q1 q2 q3 q4; have Q := FIN.out g' cap2 w3 q1 q3; clear q1 q2 q3 q4 FIN RD OL HO BB)
      go_ret
      exact Q
theorem all_at {w : World} {B q cap : Nat} {a : Option Addr} {rs : List Rq} {most : Int} (h : Qm w B q a cap rs most) (n : Nat) (hn : rs.length = n) (hn2 : n ≤ 999999) :
    Calls Tryz.prog 36 #[.pointer (some ⟨q, 0, none⟩)] w (AllP rs n w) := by
  have c0 := h.box.cell 0
  have lq := h.box.lt
  have ho := h.own
  rw [hn] at c0 ho
  have CL := Lib.hid (qclone_at ho hn2)
  clear h ho hn
  go_enter Tryz.func36, Tryz.ntmps36
  go_wp2_with fail
  refine CL.out.mono ?_
  rintro e w1 ⟨a2, c2, rfl, h1, h2⟩
  have FIN := Lib.hid (⟨a2, c2, rfl, h1, h2⟩ : AllP rs n w (.returned (.slice a2 n c2)) w1)
  clear h1 h2 CL
  go_wp2
  go_ret
  exact FIN.out
end Go.Proofs.YtimkgaokcldgkaaGreatDoor
