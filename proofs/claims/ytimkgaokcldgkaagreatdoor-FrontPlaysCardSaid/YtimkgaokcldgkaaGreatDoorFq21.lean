/- Part of a chain: SpKey. -/
import Derived.Test.YtimkgaokcldgkaaGreatDoorFq19
import Derived.Test.YtimkgaokcldgkaaGreatDoorFq20
import Derived.Lib.SlKeysI
import Derived.Maps.RangeWalk
/- Package spill: the keys of the map of places, rising. -/
namespace Go.Proofs.YtimkgaokcldgkaaGreatDoor
open Go Go.RowKit Go.Maps Go.Sort Go.Shelf
set_option linter.unusedVariables false
set_option linter.unusedSimpArgs false
set_option maxRecDepth 10000

def srtI (l : List Int) : List Int := l.mergeSort fun x y => decide (x ≤ y)
theorem rowI : RowTy Tryz.prog 63 3 1 8 := ⟨Tryz.underlying63, ⟨.int .i64 0, by kernel_rfl, rfl⟩, by decide⟩
theorem sortI_at {w : World} {B n c : Nat} {a : Option Addr} (ss : List Int) (hn : ss.length = n) (h : Own w B 3 1 a n c (inL ss)) (hB : B ≤ w.heap.size) (hf : n ≤ 100000000) :
    Calls Tryz.prog 62 #[.slice a n c] w fun e w' => e = .returned (.tuple #[]) ∧ Own w' B 3 1 a n c (inL (srtI ss)) ∧ Below B w w' := by
  subst hn
  by_cases h0 : ss.length = 0
  · have hs : ss = [] := List.eq_nil_of_length_eq_zero h0
    subst hs
    refine (AnyM.slices_Sort_int_none Tryz.sortA a c w).mono ?_
    rintro e w' ⟨rfl, rfl⟩
    have e0 : srtI [] = [] := by simp [srtI]
    rw [e0]
    exact ⟨rfl, h, Below.refl _ _⟩
  · rcases h.2 with ⟨_, e0⟩ | ⟨g, cap, cur, e, hBg, hg, h1, h2, h3, h4⟩
    · exact absurd e0 h0
    · injection e with e1 e2 e3
      subst e1 e3
      rw [Nat.mul_one] at h4
      refine (AnyM.slices_Sort_int Tryz.sortA g 0 c ss w (holds_of_block_i hg h4) (Array.getElem?_eq_some_iff.1 hg).1 (by omega)).mono ?_
      rintro e w' ⟨rfl, k, os, rfl⟩
      exact ⟨rfl, ownsRow_sorted_i (by rw [List.length_mergeSort]) hBg hg h1 h2 h3, (Below.refl _ w).grown (grownBy_sorted_i _) hB (fun k hk => by injection hk with hk; omega)⟩
/-- What the loop holds. -/
structure KeyL (w : World) (pm : Nat) (N : Nat) (D : DataW Value) (left : Lit → Bool) (cnt : Nat) (ss : List Int) (n c : Nat) (a : Option Addr) (wr : World) : Prop where
  rg : wr.ranges Tryz.prog 3 RHm pm w.heap.size N D left cnt
  tot : ss.length + cnt ≤ N
  col : CollectedI D left ss
  len : ss.length = n
  own : Own wr w.heap.size 3 1 a n c (inL ss)
  bel : Below w.heap.size w wr
theorem own_keptK {W W' : World} {B0 size n c : Nat} {E : TypeId} {a : Option Addr} {xs : List Value} {r : Nat} (h : Own W B0 E size a n c xs) (hg : W.grownBy W' (some r)) (hr : ∃ o : Obj, W.heap[r]? = some o ∧ o.isWalk = true) : Own W' B0 E size a n c xs := by
  refine h.blocks (fun g e => ?_)
  have hb := h
  rw [e] at hb
  obtain ⟨cur, hc, _⟩ := hb.block
  refine hg.block g (Array.getElem?_eq_some_iff.1 hc).1 (fun e4 => ?_)
  obtain ⟨o, ho, hcc⟩ := hr
  injection e4 with e4
  rw [← e4, hc] at ho
  injection ho with ho
  subst ho
  cases hcc
theorem own_ne_iter {W : World} {B0 size n c k r : Nat} {E : TypeId} {a : Option Addr} {xs : List Value} (h : Own W B0 E size a n c xs) (hr : ∃ o : Obj, W.heap[r]? = some o ∧ o.isWalk = true) (hk : a.map (·.block) = some k) : k ≠ r ∧ B0 ≤ k := by
  rcases h.form with ⟨e, _⟩ | ⟨g, e, hB, _⟩
  · rw [e] at hk; cases hk
  · rw [e] at hk
    have hk : g = k := Option.some.inj hk
    subst hk
    refine ⟨fun e4 => ?_, hB⟩
    rw [e] at h
    obtain ⟨cur, hc, _⟩ := h.block
    obtain ⟨o, ho, hcc⟩ := hr
    rw [← e4, hc] at ho
    injection ho with ho
    subst ho
    cases hcc
set_option maxHeartbeats 2000000 in
theorem keysP_at {w : World} {pm : Nat} {S : List (Int × Pl)} (h : PtM w pm S) (n : Nat) (hn : S.length = n) (hf : n ≤ 1000000) :
    Calls Tryz.prog 81 #[.map (some pm)] w fun e w' => ∃ a c, e = .returned (.slice a n c) ∧ Own w' w.heap.size 3 1 a n c (inL (srtI (S.map Prod.fst))) ∧ Below w.heap.size w w' := by
  obtain ⟨D, es, hes, hown, hperm, _, _⟩ := h.keys tyP
  rw [hn] at hown
  have hsz : Maps.size D ≤ n := hown.size_le
  have HP : Hid ((S.map Prod.fst).Perm (intKeys D)) := Lib.hid (by
    have := hperm.map (_root_.Go.intOf : Lit → Int)
    rw [List.map_map, List.map_map] at this
    rw [hes]
    exact this)
  have HPM := Lib.hid h.lt
  have HOWN := Lib.hid hown
  have HN := Lib.hid hn
  clear hperm hes h hn
  go_enter Tryz.func81, Tryz.ntmps81
  go_wp2_with (first | (at_range; refine wpList_range_own _ rfl _ 58 rfl 3 81 tyP.key tyP.und RHm pm n D rfl HOWN.out ?_; intro w0 hrg0 hg0 hs0) | go_in)
  go_frame
  go_loopw [3] (fun vl wr => ∃ (left : Lit → Bool) (cnt : Nat) (ss : List Int) (k c : Nat) (a : Option Addr), vl = .slice a k c ∧ k ≤ n ∧ Hid (KeyL w pm n D left cnt ss k c a wr)) (fun _ wr => wr.rangeLeft pm w.heap.size)
  case atStart => exact ⟨_, _, [], 0, 0, none, rfl, by omega, Lib.hid ⟨hrg0, by simpa using hsz, CollectedI.start D, rfl, Own.nil _ _ _ _, (Below.refl _ w).grown hg0 (Nat.le_refl _) (fun k hk => by cases hk)⟩⟩
  case round =>
    obtain ⟨left, cnt, ss, k, c, a, rfl, hk, HK⟩ := hrel
    go_wp2_with (first
      | (at_next; refine wpList_next_ranges _ rfl _ rfl 3 tyP.key RHm (Value.int .i64) id (fun key kl hk => by obtain ⟨x, hx, _⟩ := Maps.keyOf_i64 Tryz.underlying3 hk; exact ⟨x, hx⟩) (fun v _ _ => ⟨v, rfl⟩) pm w.heap.size n _ _ _ rfl HK.out.rg ?_ ?_)
      | go_in)
    · intro hc0 hl0
      have HKP : Hid (ss.Perm (S.map Prod.fst)) := Lib.hid ((HK.out.col.perm HOWN.out tyP.key Tryz.underlying3 hl0).trans HP.out.symm)
      have SRT := Lib.hid (fun (hkn : k ≤ 100000000) => sortI_at ss HK.out.len HK.out.own HK.out.bel.size hkn)
      go_wp2_with fail
      refine (SRT.out (by omega)).mono ?_
      rintro e w5 ⟨rfl, ho, hb⟩
      have HO := Lib.hid ho
      have HB := Lib.hid (HK.out.bel.trans hb)
      clear ho hb SRT
      go_wp2_with fail
      go_ret
      obtain rfl : k = n := by
        have := HKP.out.length_eq
        rw [List.length_map, HN.out, HK.out.len] at this
        exact this
      refine ⟨a, c, rfl, ?_, HB.out⟩
      have e1 : srtI ss = srtI (S.map Prod.fst) := mergeSort_of_perm_i HKP.out
      rw [← e1]
      exact HO.out
    · intro x cc kl yd yp w2 cnt2 hkey hlk hv hat hrg2 hlt hg2 hs2 hen
      obtain ⟨x', ex, rfl, hwf⟩ := Maps.keyOf_i64 Tryz.underlying3 hkey
      obtain rfl : x = x' := by injection ex
      have hit := HK.out.rg.iter_walk
      have O2 := Lib.hid (own_keptK HK.out.own hg2 hit)
      have B2 := Lib.hid (HK.out.bel.grown hg2 HK.out.bel.size (fun k hk => by injection hk with hk; omega))
      have RG2 := Lib.hid hrg2
      have COL := Lib.hid (HK.out.col.step hlk hat)
      have hkl : k + 1 ≤ n := by have := HK.out.tot; have := HK.out.len; omega
      have TOT : Hid ((ss ++ [x]).length + cnt2 ≤ n) := Lib.hid (by have := HK.out.tot; rw [List.length_append, List.length_singleton]; omega)
      have LEN : Hid ((ss ++ [x]).length = k + 1) := Lib.hid (by rw [List.length_append, HK.out.len]; rfl)
      have HZ : Hid (inL ss ++ #[Value.int .i64 x].toList = inL (ss ++ [x])) := Lib.hid (by unfold inL; simp)
      have LT := Lib.hid hlt
      have L0 := Lib.hid HK.out.rg.left_eq
      have NEW : Hid (∀ (w5 : World) (g5 c5 : Nat), Own w5 w.heap.size 3 1 (some ⟨g5, 0, none⟩) (k + 1) c5 (inL (ss ++ [x])) → w2.grownBy w5 (a.map (·.block)) → Below w.heap.size w2 w5 → KeyL w pm n D (fun z => left z && !z.sameKey (.int .i64 x)) cnt2 (ss ++ [x]) (k + 1) c5 (some ⟨g5, 0, none⟩) w5) := Lib.hid (fun w5 g5 c5 p1 p2 p3 => ⟨RG2.out.kept p2 (fun e => by have := (own_ne_iter O2.out RG2.out.iter_walk e.symm).2; have := HPM.out; omega) (fun e => (own_ne_iter O2.out RG2.out.iter_walk e.symm).1 rfl), TOT.out, COL.out, LEN.out, p1, B2.out.trans p3⟩)
      clear hs2 hit hg2 hrg2 hlk hat hkey hlt
      go_wp2_with (at_builtin; refine wpList_app1 rowI rfl _ _ rfl w.heap.size a k c (inL ss) rfl O2.out #[.int .i64 x] rfl rfl (by simp [Value.oneCell']) (by omega) (by decide) B2.out.size (k + 1) rfl (inL (ss ++ [x])) HZ.out ?_; rintro g5 c5 w5 p1 p2 p3 p4; have NX := Lib.hid (NEW.out _ _ _ p1 p2 p3); clear p1 p2 p3 p4 O2 B2)
      go_roundw
      case rel => exact ⟨_, cnt2, ss ++ [x], k + 1, _, _, rfl, hkl, NX⟩
      case measure => rw [NX.out.rg.left_eq, L0.out]; exact LT.out
end Go.Proofs.YtimkgaokcldgkaaGreatDoor
