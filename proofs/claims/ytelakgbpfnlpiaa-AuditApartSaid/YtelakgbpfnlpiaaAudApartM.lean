/- Two lists of events whose hosts are apart: what is asked of them together. -/
import Derived.Test.YtelakgbpfnlpiaaAudOpen
namespace Go.Proofs.Ytelakgbpfnlpiaa
open Go.RowKit Go.Maps Go.WideMaps

theorem cnt_append (xs ys : List Ev) (j : Int) : cnt (xs ++ ys) j = cnt xs j + cnt ys j := by
  unfold cnt
  rw [List.filter_append, List.length_append]
  omega
theorem gapsL_congr (f : Int) : ∀ (xs : List Ev) (L M : Lasts), (∀ e, e ∈ xs → L e.host = M e.host) → gapsL f L xs = gapsL f M xs
  | [], _, _, _ => rfl
  | e :: r, L, M, h => by
    have hs : ∀ x, x ∈ r → setL L e.host e.time x.host = setL M e.host e.time x.host := fun x hx => by
      unfold setL
      rw [h x (List.mem_cons_of_mem _ hx)]
    unfold gapsL
    rw [h e (by simp), gapsL_congr f r _ _ hs]
theorem gapsL_apart (f : Int) : ∀ (xs ys : List Ev) (L : Lasts), (∀ x, x ∈ xs → ∀ y, y ∈ ys → y.host.data ≠ x.host.data) → gapsL f L (xs ++ ys) = (gapsL f L xs && gapsL f L ys)
  | [], _, _, _ => by simp [gapsL]
  | e :: r, ys, L, h => by
    have hy : gapsL f (setL L e.host e.time) ys = gapsL f L ys := gapsL_congr f ys _ _ (fun y hy => by
      unfold setL
      rw [if_neg (h e (by simp) y hy)])
    have ih := gapsL_apart f r ys (setL L e.host e.time) (fun x hx => h x (List.mem_cons_of_mem _ hx))
    rw [List.cons_append]
    conv => lhs; unfold gapsL
    conv => rhs; lhs; unfold gapsL
    cases L e.host with
    | none => simp only; rw [ih, hy]
    | some t =>
      simp only
      by_cases hlt : subI e.time t < f
      · rw [if_pos hlt, if_pos hlt]
        rfl
      · rw [if_neg hlt, if_neg hlt, ih, hy]
/-- An event with a letter ahead of its host. -/
def markE (c : UInt8) (e : Ev) : Ev := { e with host := ⟨#[c] ++ e.host.data⟩ }
theorem mark_apart {c d : UInt8} (hcd : c ≠ d) (x y : Ev) : (markE d y).host.data ≠ (markE c x).host.data := fun h => by
  have h0 := congrArg (fun a : Array UInt8 => a[0]?) h
  simp only [markE] at h0
  rw [Array.getElem?_append_left (by simp), Array.getElem?_append_left (by simp)] at h0
  simp at h0
  exact hcd h0.symm
theorem mark_went (c : UInt8) (e : Ev) : wentE (markE c e) = wentE e := rfl
theorem marks_apart {c d : UInt8} (hcd : c ≠ d) (f : Int) (L : Lasts) (xs ys : List Ev) : gapsL f L ((xs.map (markE c) ++ ys.map (markE d)).filter wentE) = (gapsL f L ((xs.map (markE c)).filter wentE) && gapsL f L ((ys.map (markE d)).filter wentE)) := by
  rw [List.filter_append]
  refine gapsL_apart f _ _ L (fun x hx y hy => ?_)
  obtain ⟨x0, _, rfl⟩ := List.mem_map.1 (List.mem_filter.1 hx).1
  obtain ⟨y0, _, rfl⟩ := List.mem_map.1 (List.mem_filter.1 hy).1
  exact mark_apart hcd x0 y0
end Go.Proofs.Ytelakgbpfnlpiaa
