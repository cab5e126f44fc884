/- May a name be: the document's. -/
import Derived.Test.YtcdodpkfhkfnkaaDoorUrClean
import Derived.RegionTactic
/- Parts between signs; a path without what goes up and stays; names: the document's. -/
namespace Go.Proofs.YtcdodpkfhkfnkaaDoor
open Go.RowKit
set_option linter.unusedVariables false
set_option linter.unusedSimpArgs false
set_option maxRecDepth 10000

theorem spl_snoc_sign (c : Int) : ∀ l : List Int, splI c (l ++ [c]) = splI c l ++ [[]]
  | [] => by
    rw [List.nil_append, splI_sign]
    rfl
  | x :: t => by
    have ih := spl_snoc_sign c t
    cases hs : splI c t with
    | nil => exact absurd hs (splI_ne _ _)
    | cons q qs =>
      rw [hs] at ih
      by_cases hx : x = c
      · subst hx
        rw [List.cons_append, splI_sign, splI_sign, ih, hs]
        rfl
      · rw [List.cons_append, splI_other hx ih, splI_other hx hs]
        rfl
theorem spl_snoc_other (c x : Int) (hxc : x ≠ c) : ∀ (l : List Int) (j : Nat) (l0 : List Int), (splI c l)[j]? = some l0 → (splI c l).length = j + 1 → splI c (l ++ [x]) = (splI c l).set j (l0 ++ [x])
  | [], j, l0, h, hj => by
    have e : splI c [] = [[]] := rfl
    rw [e] at h hj
    obtain rfl : j = 0 := by simpa using hj.symm
    obtain rfl : l0 = [] := by simpa using h.symm
    rw [List.nil_append, splI_other hxc e, e]
    rfl
  | y :: t, j, l0, h, hj => by
    cases hs : splI c t with
    | nil => exact absurd hs (splI_ne _ _)
    | cons q qs =>
      by_cases hy : y = c
      · subst hy
        rw [splI_sign] at h hj ⊢
        rw [List.cons_append, splI_sign]
        cases j with
        | zero =>
          rw [hs] at hj
          simp at hj
        | succ j =>
          have := spl_snoc_other y x hxc t j l0 (by simpa using h) (by simpa using hj)
          rw [this]
          rfl
      · rw [splI_other hy hs] at h hj ⊢
        cases j with
        | zero =>
          have hqs : qs = [] := by simpa using hj
          obtain rfl : l0 = y :: q := by simpa using h.symm
          have := spl_snoc_other c x hxc t 0 q (by rw [hs]; rfl) (by rw [hs, hqs]; rfl)
          rw [hs] at this
          rw [List.cons_append, splI_other hy this]
          rfl
        | succ j =>
          have := spl_snoc_other c x hxc t (j + 1) l0 (by rw [hs]; simpa using h) (by rw [hs]; simpa using hj)
          rw [hs] at this
          rw [List.cons_append, splI_other hy this]
          rfl
theorem sv_set (ks : List (List Int)) (j : Nat) (l : List Int) : (sv ks).set j (.string (strL l)) = sv (ks.set j l) := by simp [sv, List.map_set]
structure SL (l : List Int) (c : Int) (w wr : World) (k : Nat) (a : Option Addr) (cap m : Nat) (ks : List (List Int)) : Prop where
  own : Own wr w.heap.size 9 1 a m cap (sv ks)
  bel : Below w.heap.size w wr
  is : ks = splI c (l.take k)
  len : ks.length = m
def SplO (l : List Int) (c : Int) (w : World) (e : Ending) (w' : World) : Prop := ∃ (a : Option Addr) (cap : Nat), e = .returned (.slice a (splI c l).length cap) ∧ OwnS w' w.heap.size a cap (splI c l) ∧ Below w.heap.size w w'
set_option maxHeartbeats 1000000 in
theorem rsplit_at (s : ByteArray) (c : Int) (hs : s.size ≤ 10000) (w : World) :
    Calls Tryd.prog 65 #[.string s, .int .u8 c] w (SplO (btL s) c w) := by
  obtain ⟨l, hl⟩ : ∃ l, btL s = l := ⟨_, rfl⟩
  rw [hl]
  have HB : Hid (Byts l) := Lib.hid (by rw [← hl]; exact btL_byts s)
  have HL := Lib.hid hl
  have HLL : Hid (l.length = s.size) := Lib.hid (by rw [← hl, btL_length])
  clear hl
  go_enter Tryd.func65, Tryd.ntmps65
  go_wp2_with fail
  go_loopw [5, 6] (fun v i wr => ∃ (k m : Nat) (a : Option Addr) (cap : Nat) (ks : List (List Int)), k ≤ s.size ∧ i = .int .i64 (k : Int) ∧ v = .slice a m cap ∧ m ≤ k + 1 ∧ 1 ≤ m ∧ w.heap.size ≤ wr.heap.size ∧ Hid (SL l c w wr k a cap m ks)) (fun _ i _ => s.size - (intOf i).toNat)
  case atStart => exact ⟨0, 1, some ⟨w.heap.size, 0, none⟩, 1, [[]], Nat.zero_le _, rfl, rfl, by omega, by omega, by simp, Lib.hid ⟨Own.lit (cs := #[.string ⟨#[]⟩]) (Nat.le_refl _) (by omega) rfl, (Below.refl _ _).alloc (Nat.le_refl _) _, rfl, rfl⟩⟩
  case round =>
    obtain ⟨k, m, a, cap, ks, hk, rfl, rfl, hm1, hm0, sz, HW⟩ := hrel
    by_cases hlt : k < s.size
    · have hkd : decide ((k : Int) < (s.size : Int)) = true := decide_eq_true (by omega)
      obtain ⟨x, hx⟩ : ∃ x : Int, (s[k].toNat : Int) = x := ⟨_, rfl⟩
      have HX : Hid (l[k]? = some x) := Lib.hid (by rw [← HL.out, btL_at s k hlt, hx])
      have HT : Hid (l.take (k + 1) = l.take k ++ [x]) := Lib.hid (by
        obtain ⟨hk', he⟩ := List.getElem?_eq_some_iff.1 HX.out
        rw [List.take_succ_eq_append_getElem hk', he])
      by_cases hc : x = c
      · have d1 : (x == c) = true := beq_iff_eq.2 hc
        have post : Hid (∀ (g cap' : Nat) (w2 : World), Own w2 w.heap.size 9 1 (some ⟨g, 0, none⟩) (m + 1) cap' (sv (ks ++ [[]])) → Below w.heap.size wr w2 → Hid (SL l c w w2 (k + 1) (some ⟨g, 0, none⟩) cap' (m + 1) (ks ++ [[]])) ∧ w.heap.size ≤ w2.heap.size) := Lib.hid (fun g cap' w2 h1 h2 => ⟨Lib.hid ⟨h1, HW.out.bel.trans h2, by rw [HT.out, hc, spl_snoc_sign, HW.out.is], by rw [List.length_append, HW.out.len]; rfl⟩, Nat.le_trans sz h2.size⟩)
        have HZ : Hid (sv ks ++ (#[Value.string ⟨#[]⟩] : Array Value).toList = sv (ks ++ [[]])) := Lib.hid (by rw [← sv_app]; rfl)
        clear hc
        go_wp2_with (at_builtin; refine wpList_app1 rowS rfl _ _ rfl w.heap.size a m cap (sv ks) rfl HW.out.own #[.string ⟨#[]⟩] rfl rfl (str_one _) (by omega) (by decide) sz (m + 1) rfl (sv (ks ++ [[]])) HZ.out ?_; rintro g cap' w2 own2 _ bel2 _)
        obtain ⟨L2, sz2⟩ := post.out g cap' w2 own2 bel2
        clear own2 bel2
        go_wp2
        go_roundw
        case rel => exact ⟨k + 1, m + 1, some ⟨g, 0, none⟩, cap', ks ++ [[]], by omega, by go_num, rfl, by omega, by omega, sz2, L2⟩
        case measure => simp [intOf]; omega
      · have d1 : (x == c) = false := beq_eq_false_iff_ne.2 hc
        obtain ⟨j, rfl⟩ : ∃ j, m = j + 1 := ⟨m - 1, by omega⟩
        obtain ⟨l0, hl0⟩ : ∃ l0, ks[j]? = some l0 := ⟨ks[j]'(by rw [HW.out.len]; omega), List.getElem?_eq_getElem _⟩
        obtain ⟨g, rfl, hg1, hg2⟩ := Own.some_ HW.out.own (by omega)
        have c0 : wr.cell? ⟨g, j, none⟩ = some (.string (strL l0)) := HW.out.own.cell (sv_get hl0)
        have f0 : wr.frozen? ⟨g, j, none⟩ = false := HW.out.own.free j
        have x0 := HB.out x (List.mem_of_getElem? HX.out)
        have hlen : l0.length ≤ 10000 := by
          have := spl_mem c (l.take k) l0 (by rw [← HW.out.is]; exact List.mem_of_getElem? hl0)
          have h2 := this.1
          rw [List.length_take] at h2
          have := HLL.out
          omega
        obtain ⟨z, hz⟩ : ∃ z, strL (l0 ++ [x]) = z := ⟨_, rfl⟩
        obtain ⟨z0, hz0⟩ : ∃ z, strL l0 = z := ⟨_, rfl⟩
        obtain ⟨zx, hzx⟩ : ∃ z, strL [x] = z := ⟨_, rfl⟩
        have zs0 : z0.size = l0.length := by rw [← hz0, strL_size]
        have zsx : zx.size = 1 := by rw [← hzx, strL_size]; rfl
        rw [hz0] at c0
        have A1 : ∀ wx : World, (Op.stringOp .add z0 zx).run Tryd.prog wx = .ok (.string z) wx := fun wx => by
          rw [run_string_add_sum wx _ _ (by omega), ← hz, ← hz0, ← hzx, strL_app]
        have post : Hid (∀ w2 : World, Below wr.heap.size wr w2 → Hid (SL l c w (w2.setCell ⟨g, j, none⟩ (.string z)) (k + 1) (some ⟨g, 0, none⟩) cap (j + 1) (ks.set j (l0 ++ [x]))) ∧ w.heap.size ≤ (w2.setCell ⟨g, j, none⟩ (.string z)).heap.size) := Lib.hid (fun w2 h2 => ⟨Lib.hid ⟨by
            have := (HW.out.own.later h2).set j (.string z)
            rw [← hz, sv_set] at this
            rw [← hz]
            exact this, (HW.out.bel.trans (h2.mono HW.out.bel.size)).setCell (p := ⟨g, j, none⟩) hg1 _, by
            rw [HT.out, spl_snoc_other c x hc (l.take k) j l0 (by rw [← HW.out.is]; exact hl0) (by rw [← HW.out.is]; exact HW.out.len), ← HW.out.is], by rw [List.length_set]; exact HW.out.len⟩, by have := h2.size; simp [World.setCell]; omega⟩)
        have cv1 : (convert 37 9 (.slice (some ⟨wr.heap.size, 0, none⟩) 1 1)).run Tryd.prog (wr.alloc (.cells #[.int .u8 x] 5)).drew = .ok (.string zx) (wr.alloc (.cells #[.int .u8 x] 5)).drew := by
          have := (RdB.new wr [x] 5 (0, 0)).drew.text (P := Tryd.prog) 37 5 9 Tryd.underlying37 Tryd.underlying5 Tryd.underlying9 (fun h => by cases h) 1
          rw [← hzx]
          exact this
        clear hl0 hz hz0 hzx zs0 zsx hlen hc
        go_wp2_with fail
        go_region
        obtain ⟨L2, sz2⟩ := post.out wr (Below.refl _ _)
        go_wp2
        go_roundw
        case rel => exact ⟨k + 1, j + 1, some ⟨g, 0, none⟩, cap, ks.set j (l0 ++ [x]), by omega, by go_num, rfl, by omega, by omega, by simp; omega, Lib.hid ⟨(L2.out.own.alloc _).drew, (L2.out.bel.alloc sz2 _).drew, L2.out.is, L2.out.len⟩⟩
        case measure => simp [intOf]; omega
    · have hkd : decide ((k : Int) < (s.size : Int)) = false := decide_eq_false (by omega)
      have HE : Hid (ks = splI c l) := Lib.hid (by rw [HW.out.is, List.take_of_length_le (by have := HLL.out; omega)])
      go_wp2
      go_ret
      obtain ⟨h1, h2, h3, h4⟩ := HW.out
      have e := HE.out
      subst e
      subst h4
      exact ⟨a, cap, rfl, h1, h2⟩
end Go.Proofs.YtcdodpkfhkfnkaaDoor
/- A path without what goes up and stays: the document's. -/
namespace Go.Proofs.YtcdodpkfhkfnkaaDoor
open Go.RowKit
set_option linter.unusedVariables false
set_option linter.unusedSimpArgs false
set_option maxRecDepth 10000

theorem join_snoc : ∀ (a : List (List Int)) (x : List Int), joinI (a ++ [x]) = if a = [] then x else joinI a ++ 47 :: x
  | [], x => by rw [if_pos rfl]; rfl
  | [p], x => by rw [if_neg (by simp)]; rfl
  | p :: q :: ps, x => by
    rw [if_neg (by simp)]
    have ih := join_snoc (q :: ps) x
    rw [if_neg (by simp)] at ih
    show p ++ 47 :: joinI ((q :: ps) ++ [x]) = (p ++ 47 :: joinI (q :: ps)) ++ 47 :: x
    rw [ih]
    simp
/-- What the document keeps behind k of the parts. -/
structure RK (ps : List (List Int)) (M : Nat) (ks : List (List Int)) (k : Nat) : Prop where
  mid : k < ps.length → ks = keptI ps k
  all : k = ps.length → ks = cleanL ps
  len : ks.length ≤ k + 2
  ok : ∀ l ∈ ks, Byts l ∧ l.length ≤ M
theorem getLast_at {ps : List (List Int)} {k : Nat} {p : List Int} (h : ps[k]? = some p) (hk : k + 1 = ps.length) : ps.getLast? = some p := by
  rw [List.getLast?_eq_getElem?, show ps.length - 1 = k from by omega]; exact h
/-- One part further: q is what cstep leaves, and behind a last part that goes up or stays an empty one more. -/
theorem RK.step {ps : List (List Int)} {M : Nat} {ks : List (List Int)} {k : Nat} {p : List Int} (h : RK ps M ks k) (hp : ps[k]? = some p) (hb : Byts p ∧ p.length ≤ M) (hd : (p = [46] ∨ p = [46, 46]) → k + 1 ≠ ps.length) : RK ps M (cstep ks p) (k + 1) := by
  have hk := (List.getElem?_eq_some_iff.1 hp).1
  have e := h.mid hk
  have e2 : cstep ks p = keptI ps (k + 1) := by rw [keptI_next hp, ← e]
  refine ⟨fun _ => e2, fun hn => ?_, ?_, ?_⟩
  · rw [e2, hn, cleanL_no (getLast_at hp hn) (fun e => hd (Or.inl e) hn) (fun e => hd (Or.inr e) hn)]
  · unfold cstep
    have := h.len
    split
    · omega
    · split
      · split
        · simp
        · rw [List.length_dropLast]; omega
      · rw [List.length_append]; simp; omega
  · unfold cstep
    split
    · exact h.ok
    · split
      · split
        · intro l hl; rw [List.mem_singleton.1 hl]; exact ⟨Byts.nil, by simp⟩
        · intro l hl; exact h.ok l (List.mem_of_mem_take (by rwa [List.dropLast_eq_take] at hl))
      · intro l hl
        rcases List.mem_append.1 hl with hl | hl
        · exact h.ok l hl
        · rw [List.mem_singleton.1 hl]; exact hb
theorem RK.last {ps : List (List Int)} {M : Nat} {ks : List (List Int)} {k : Nat} {p : List Int} (h : RK ps M ks k) (hp : ps[k]? = some p) (hb : Byts p ∧ p.length ≤ M) (hd : p = [46] ∨ p = [46, 46]) (hn : k + 1 = ps.length) : RK ps M (cstep ks p ++ [[]]) (k + 1) := by
  have hk := (List.getElem?_eq_some_iff.1 hp).1
  have e := h.mid hk
  have e2 : cstep ks p = keptI ps (k + 1) := by rw [keptI_next hp, ← e]
  have hlen : (cstep ks p).length ≤ k + 2 := by
    have := h.len
    unfold cstep
    rcases hd with rfl | rfl
    · rw [if_pos rfl]; omega
    · rw [if_neg (by decide), if_pos rfl]
      split
      · simp
      · rw [List.length_dropLast]; omega
  have hok : ∀ l ∈ cstep ks p, Byts l ∧ l.length ≤ M := by
    unfold cstep
    rcases hd with rfl | rfl
    · rw [if_pos rfl]; exact h.ok
    · rw [if_neg (by decide), if_pos rfl]
      split
      · intro l hl; rw [List.mem_singleton.1 hl]; exact ⟨Byts.nil, by simp⟩
      · intro l hl; exact h.ok l (List.mem_of_mem_take (by rwa [List.dropLast_eq_take] at hl))
  refine ⟨fun h => by omega, fun _ => ?_, ?_, ?_⟩
  · rw [e2, hn, cleanL_yes (getLast_at hp hn) hd]
  · rw [List.length_append]; simp; omega
  · intro l hl
    rcases List.mem_append.1 hl with hl | hl
    · exact hok l hl
    · rw [List.mem_singleton.1 hl]; exact ⟨Byts.nil, by simp⟩
structure RC (ps : List (List Int)) (w wr : World) (gp : Nat) (a : Option Addr) (cap m : Nat) (ks : List (List Int)) : Prop where
  own : Own wr w.heap.size 9 1 a m cap (sv ks)
  cells : ∀ (j : Nat) (l : List Int), ps[j]? = some l → wr.cell? ⟨gp, j, none⟩ = some (.string (strL l))
  ne : ∀ g, a = some ⟨g, 0, none⟩ → g ≠ gp
  gp : gp < wr.heap.size
  bel : Below w.heap.size w wr
  len : ks.length = m
theorem row_ne {w : World} {B size n cap : Nat} {E : TypeId} {a : Option Addr} {xs : List Value} (h : Own w B E size a n cap xs) {g0 : Nat} (hne : ∀ g, a = some ⟨g, 0, none⟩ → g ≠ g0) : some g0 ≠ a.map (·.block) := by
  rcases h.form with ⟨rfl, _⟩ | ⟨g, rfl, _⟩
  · intro e; cases e
  · intro e
    injection e with e
    exact hne g rfl e.symm
theorem RC.app {ps : List (List Int)} {w wr w2 : World} {gp cap m g cap' : Nat} {a : Option Addr} {ks : List (List Int)} (h : RC ps w wr gp a cap m ks) (x : List Int) (ho : Own w2 w.heap.size 9 1 (some ⟨g, 0, none⟩) (m + 1) cap' (sv (ks ++ [x])))
    (hg : wr.grownBy w2 (a.map (·.block))) (hb : Below w.heap.size wr w2) (hgg : a.map (·.block) = some g ∨ g = wr.heap.size + 1) : RC ps w w2 gp (some ⟨g, 0, none⟩) cap' (m + 1) (ks ++ [x]) := by
  have hn := row_ne h.own h.ne
  refine ⟨ho, fun j l hj => hg.cell (h.cells j l hj) hn, fun g' e => ?_, Nat.lt_of_lt_of_le h.gp hb.size, h.bel.trans hb, by rw [List.length_append, h.len]; rfl⟩
  injection e with e
  injection e with e
  subst e
  rcases hgg with e | e
  · intro e2
    rw [e2] at e
    exact hn e.symm
  · have := h.gp
    omega
theorem RC.take {ps : List (List Int)} {w wr : World} {gp cap m : Nat} {a : Option Addr} {ks : List (List Int)} (h : RC ps w wr gp a cap m ks) {j : Nat} (hj : j ≤ m) : RC ps w wr gp a cap j (ks.take j) := by
  have ho := h.own.take hj
  rw [Nat.mul_one, sv_take] at ho
  exact ⟨ho, h.cells, h.ne, h.gp, h.bel, by rw [List.length_take, h.len]; omega⟩
set_option maxHeartbeats 3000000 in
theorem rclean_at (s t : ByteArray) (ht : strL (cleanI (btL s)) = t) (hs : s.size ≤ 10000) (w : World) :
    Calls Tryd.prog 31 #[.string s] w fun e w' => e = .returned (.string t) ∧ Below w.heap.size w w' := by
  obtain ⟨ps, hps⟩ : ∃ ps, splI 47 (btL s) = ps := ⟨_, rfl⟩
  have hn0 : 0 < ps.length := by rw [← hps]; exact List.length_pos_iff.2 (splI_ne _ _)
  have hn1 : ps.length ≤ 10001 := by have := spl_count 47 (btL s); rw [hps, btL_length] at this; omega
  have HPS : Hid (∀ p ∈ ps, Byts p ∧ p.length ≤ s.size) := Lib.hid (fun p hp => by
    rw [← hps] at hp
    have := spl_mem 47 _ p hp
    exact ⟨this.2 (btL_byts s), by rw [← btL_length s]; exact this.1⟩)
  have HS : Hid (Calls Tryd.prog 65 #[.string s, .int .u8 47] w (SplO (btL s) 47 w)) := Lib.hid (rsplit_at s 47 hs w)
  have HPQ := Lib.hid hps
  have HV : Hid (strL (let q := joinI (cleanL ps); if q.head? = some 47 then q else 47 :: q) = t) := Lib.hid (by rw [← ht, ← hps]; rfl)
  clear hps ht
  go_enter Tryd.func31, Tryd.ntmps31
  go_wp2_with fail
  refine HS.out.mono ?_
  rintro e w1 ⟨ap, capp, rfl, ow1, bel1⟩
  rw [HPQ.out] at ow1 ⊢
  obtain ⟨gp, rfl, gp1, gp2⟩ := Own.some_ ow1 hn0
  have L0 : Hid (RC ps w (w1.alloc (.cells #[] 9)) gp (some ⟨w1.heap.size, 0, none⟩) 0 0 []) := Lib.hid
    ⟨Own.lit (cs := #[]) bel1.size (by omega) rfl, fun j l hj => by rw [World.cell?_alloc_lt _ _ _ gp2]; exact ow1.cells hj, fun g e => by injection e with e; injection e with e; omega, by simp; omega, bel1.alloc bel1.size _, rfl⟩
  have K0 : Hid (RK ps s.size [] 0) := Lib.hid ⟨fun _ => rfl, fun e => by omega, by simp, fun l hl => by cases hl⟩
  have z1 : w.heap.size ≤ (w1.alloc (.cells #[] 9)).heap.size := by have := bel1.size; simp; omega
  clear ow1 bel1 HS HPQ
  go_wp2_with fail
  go_loopw [4, 5] (fun v i wr => ∃ (k m : Nat) (a : Option Addr) (cap : Nat) (ks : List (List Int)), k ≤ ps.length ∧ i = .int .i64 (k : Int) ∧ v = .slice a m cap ∧ w.heap.size ≤ wr.heap.size ∧ Hid (RC ps w wr gp a cap m ks) ∧ Hid (RK ps s.size ks k)) (fun _ i _ => ps.length - (intOf i).toNat)
  case atStart => exact ⟨0, 0, _, 0, [], Nat.zero_le _, rfl, rfl, z1, L0, K0⟩
  case round =>
    clear L0 K0 z1
    obtain ⟨k, m, a, cap, ks, hk, rfl, rfl, sz, HR, HK⟩ := hrel
    have hlen : m ≤ k + 2 := by have := HK.out.len; have := HR.out.len; omega
    by_cases hlt : k < ps.length
    · have hkd : decide ((k : Int) < (ps.length : Int)) = true := decide_eq_true (by omega)
      obtain ⟨p, hp⟩ : ∃ p, ps[k]? = some p := ⟨ps[k], List.getElem?_eq_getElem hlt⟩
      have HPB := Lib.hid (HPS.out p (List.mem_of_getElem? hp))
      have HP := Lib.hid hp
      have kc := HR.out.cells k p hp
      obtain ⟨u, hu⟩ : ∃ u, strL p = u := ⟨_, rfl⟩
      rw [hu] at kc
      have q1 : (u.toList == [46]) = (p == [46]) := by rw [← hu]; exact tl_eq HPB.out.1 [46]
      have q2 : (u.toList == [46, 46]) = (p == [46, 46]) := by rw [← hu]; exact tl_eq HPB.out.1 [46, 46]
      have HU := Lib.hid hu
      have HZ : Hid (∀ qs : List (List Int), sv qs ++ (#[Value.string ⟨#[]⟩] : Array Value).toList = sv (qs ++ [[]])) := Lib.hid (fun qs => by rw [← sv_app]; rfl)
      have gp0 := HR.out.gp
      have n1 : (ps.length : Int) - 1 = ((ps.length - 1 : Nat) : Int) := by omega
      clear hp hu
      cases x1 : (p == [46]) with
      | true =>
        rw [x1] at q1
        have hu2 : u.toList = [46] := beq_iff_eq.1 q1
        have hp1 : p = [46] := beq_iff_eq.1 x1
        have hc : cstep ks p = ks := by unfold cstep; rw [if_pos hp1]
        clear q2 x1
        by_cases hl : k + 1 = ps.length
        · have dl : ((k : Int) == ((ps.length - 1 : Nat) : Int)) = true := beq_iff_eq.2 (by omega)
          have K2 : Hid (RK ps s.size (ks ++ [[]]) (k + 1)) := Lib.hid (by have := HK.out.last HP.out HPB.out (Or.inl hp1) hl; rwa [hc] at this)
          have HZ1 := Lib.hid (HZ.out ks)
          clear hl hc hp1
          go_wp2_with (at_builtin; refine wpList_app1 rowS rfl _ _ rfl w.heap.size a m cap (sv ks) rfl HR.out.own #[.string ⟨#[]⟩] rfl rfl (str_one _) (by omega) (by decide) sz (m + 1) rfl (sv (ks ++ [[]])) HZ1.out ?_; rintro g cap' w2 ow2 rw2 bw2 ew2)
          have R2 := Lib.hid (RC.app HR.out [] ow2 rw2 bw2 ew2)
          have sw2 : w.heap.size ≤ w2.heap.size := Nat.le_trans sz bw2.size
          clear ow2 rw2 bw2 ew2
          go_wp2
          go_roundw
          case rel => exact ⟨k + 1, m + 1, some ⟨g, 0, none⟩, cap', ks ++ [[]], by omega, by go_num, rfl, sw2, R2, K2⟩
          case measure => simp [intOf]; omega
        · have dl : ((k : Int) == ((ps.length - 1 : Nat) : Int)) = false := beq_eq_false_iff_ne.2 (by omega)
          have K2 : Hid (RK ps s.size ks (k + 1)) := Lib.hid (by have := HK.out.step HP.out HPB.out (fun _ => hl); rwa [hc] at this)
          clear hl hc hp1
          go_wp2
          go_roundw
          case rel => exact ⟨k + 1, m, a, cap, ks, by omega, by go_num, rfl, sz, HR, K2⟩
          case measure => simp [intOf]; omega
      | false =>
        rw [x1] at q1
        cases x2 : (p == [46, 46]) with
        | false =>
          rw [x2] at q2
          have h1 : p ≠ [46] := by simpa using x1
          have h2 : p ≠ [46, 46] := by simpa using x2
          have hc : cstep ks p = ks ++ [p] := by unfold cstep; rw [if_neg h1, if_neg h2]
          have K2 : Hid (RK ps s.size (ks ++ [p]) (k + 1)) := Lib.hid (by have := HK.out.step HP.out HPB.out (fun e => by rcases e with e | e; exact absurd e h1; exact absurd e h2); rwa [hc] at this)
          have HZ1 : Hid (sv ks ++ (#[Value.string u] : Array Value).toList = sv (ks ++ [p])) := Lib.hid (by rw [← sv_app, ← HU.out]; rfl)
          clear x1 x2 h1 h2 hc
          go_wp2_with (at_builtin; refine wpList_app1 rowS rfl _ _ rfl w.heap.size a m cap (sv ks) rfl HR.out.own #[.string u] rfl rfl (str_one _) (by omega) (by decide) sz (m + 1) rfl (sv (ks ++ [p])) HZ1.out ?_; rintro g cap' w2 ow2 rw2 bw2 ew2)
          have R2 := Lib.hid (RC.app HR.out p ow2 rw2 bw2 ew2)
          have sw2 : w.heap.size ≤ w2.heap.size := Nat.le_trans sz bw2.size
          clear ow2 rw2 bw2 ew2
          go_wp2
          go_roundw
          case rel => exact ⟨k + 1, m + 1, some ⟨g, 0, none⟩, cap', ks ++ [p], by omega, by go_num, rfl, sw2, R2, K2⟩
          case measure => simp [intOf]; omega
        | true =>
          rw [x2] at q2
          have hu2 : u.toList = [46, 46] := beq_iff_eq.1 q2
          have hp2 : p = [46, 46] := beq_iff_eq.1 x2
          have h1 : p ≠ [46] := by simpa using x1
          have hc : cstep ks p = if ks.dropLast = [] then [[]] else ks.dropLast := by unfold cstep; rw [if_neg h1, if_pos hp2]
          have hcap := HR.out.own.cap_le
          clear q1 x1 x2
          by_cases h0 : m ≤ 1
          · have hd : ks.dropLast = [] := by rw [List.dropLast_eq_take, HR.out.len]; exact List.eq_nil_of_length_eq_zero (by simp; omega)
            rw [if_pos hd] at hc
            have R0 : Hid (RC ps w wr gp a cap 0 []) := Lib.hid (by have := HR.out.take (j := 0) (by omega); simpa using this)
            have HZ0 : Hid (sv [] ++ (#[Value.string ⟨#[]⟩] : Array Value).toList = sv ([] ++ [[]])) := Lib.hid (HZ.out [])
            have HZ1 : Hid (sv ([] ++ [[]]) ++ (#[Value.string ⟨#[]⟩] : Array Value).toList = sv (([] ++ [[]]) ++ [[]])) := Lib.hid (HZ.out ([] ++ [[]]))
            clear hd
            by_cases hl : k + 1 = ps.length
            · have dl : ((k : Int) == ((ps.length - 1 : Nat) : Int)) = true := beq_iff_eq.2 (by omega)
              have K2 : Hid (RK ps s.size (([] ++ [[]]) ++ [[]]) (k + 1)) := Lib.hid (by have := HK.out.last HP.out HPB.out (Or.inr hp2) hl; rwa [hc] at this)
              clear hl hc hp2 h1
              rcases (show m = 0 ∨ m = 1 by omega) with rfl | rfl
              all_goals
                clear h0
                go_wp2_with (first | (at_builtin; refine wpList_app1 rowS rfl _ _ rfl w.heap.size a 0 cap (sv []) rfl R0.out.own #[.string ⟨#[]⟩] rfl rfl (str_one _) (by omega) (by decide) sz (0 + 1) rfl (sv ([] ++ [[]])) HZ0.out ?_; rintro g cap' w2 ow2 rw2 bw2 ew2; have R2 := Lib.hid (RC.app R0.out [] ow2 rw2 bw2 ew2); have sw2 : w.heap.size ≤ w2.heap.size := Nat.le_trans sz bw2.size; clear ow2 rw2 bw2 ew2) | (at_builtin; refine wpList_app1 rowS rfl _ _ rfl w.heap.size (some ⟨g, 0, none⟩) 1 cap' (sv ([] ++ [[]])) rfl R2.out.own #[.string ⟨#[]⟩] rfl rfl (str_one _) (by omega) (by decide) sw2 (1 + 1) rfl (sv (([] ++ [[]]) ++ [[]])) HZ1.out ?_; rintro g' cap'' w3 ow3 rw3 bw3 ew3; have R3 := Lib.hid (RC.app R2.out [] ow3 rw3 bw3 ew3); have sw3 : w.heap.size ≤ w3.heap.size := Nat.le_trans sw2 bw3.size; clear ow3 rw3 bw3 ew3))
                go_wp2
                go_roundw
                case rel => exact ⟨k + 1, 2, some ⟨g', 0, none⟩, cap'', ([] ++ [[]]) ++ [[]], by omega, by go_num, rfl, sw3, R3, K2⟩
                case measure => simp [intOf]; omega
            · have dl : ((k : Int) == ((ps.length - 1 : Nat) : Int)) = false := beq_eq_false_iff_ne.2 (by omega)
              have K2 : Hid (RK ps s.size ([] ++ [[]]) (k + 1)) := Lib.hid (by have := HK.out.step HP.out HPB.out (fun _ => hl); rwa [hc] at this)
              clear hl hc hp2 h1
              rcases (show m = 0 ∨ m = 1 by omega) with rfl | rfl
              all_goals
                clear h0
                go_wp2_with (at_builtin; refine wpList_app1 rowS rfl _ _ rfl w.heap.size a 0 cap (sv []) rfl R0.out.own #[.string ⟨#[]⟩] rfl rfl (str_one _) (by omega) (by decide) sz (0 + 1) rfl (sv ([] ++ [[]])) HZ0.out ?_; rintro g cap' w2 ow2 rw2 bw2 ew2)
                have R2 := Lib.hid (RC.app R0.out [] ow2 rw2 bw2 ew2)
                have sw2 : w.heap.size ≤ w2.heap.size := Nat.le_trans sz bw2.size
                clear ow2 rw2 bw2 ew2
                go_wp2
                go_roundw
                case rel => exact ⟨k + 1, 1, some ⟨g, 0, none⟩, cap', [] ++ [[]], by omega, by go_num, rfl, sw2, R2, K2⟩
                case measure => simp [intOf]; omega
          · obtain ⟨j, rfl⟩ : ∃ j, m = j + 1 := ⟨m - 1, by omega⟩
            have hj : (j : Int) ≤ (cap : Int) := by omega
            have hd : ks.dropLast = ks.take j := by rw [List.dropLast_eq_take, HR.out.len]; rfl
            have hdl : (ks.take j).length = j := by rw [List.length_take, HR.out.len]; omega
            rw [hd, if_neg (by intro e; rw [e] at hdl; simp at hdl; omega)] at hc
            have R0 : Hid (RC ps w wr gp a cap j (ks.take j)) := Lib.hid (HR.out.take (by omega))
            have d0 : ((j : Int) == 0) = false := beq_eq_false_iff_ne.2 (by omega)
            have HZ0 := Lib.hid (HZ.out (ks.take j))
            clear hd hdl
            by_cases hl : k + 1 = ps.length
            · have dl : ((k : Int) == ((ps.length - 1 : Nat) : Int)) = true := beq_iff_eq.2 (by omega)
              have K2 : Hid (RK ps s.size (ks.take j ++ [[]]) (k + 1)) := Lib.hid (by have := HK.out.last HP.out HPB.out (Or.inr hp2) hl; rwa [hc] at this)
              clear hl hc hp2 h1
              go_wp2_with (at_builtin; refine wpList_app1 rowS rfl _ _ rfl w.heap.size a j cap (sv (ks.take j)) rfl R0.out.own #[.string ⟨#[]⟩] rfl rfl (str_one _) (by omega) (by decide) sz (j + 1) rfl (sv ((ks.take j) ++ [[]])) HZ0.out ?_; rintro g cap' w2 ow2 rw2 bw2 ew2)
              have R2 := Lib.hid (RC.app R0.out [] ow2 rw2 bw2 ew2)
              have sw2 : w.heap.size ≤ w2.heap.size := Nat.le_trans sz bw2.size
              clear ow2 rw2 bw2 ew2
              go_wp2
              go_roundw
              case rel => exact ⟨k + 1, j + 1, some ⟨g, 0, none⟩, cap', ks.take j ++ [[]], by omega, by go_num, rfl, sw2, R2, K2⟩
              case measure => simp [intOf]; omega
            · have dl : ((k : Int) == ((ps.length - 1 : Nat) : Int)) = false := beq_eq_false_iff_ne.2 (by omega)
              have K2 : Hid (RK ps s.size (ks.take j) (k + 1)) := Lib.hid (by have := HK.out.step HP.out HPB.out (fun _ => hl); rwa [hc] at this)
              clear hl hc hp2 h1
              go_wp2
              go_roundw
              case rel => exact ⟨k + 1, j, a, cap, ks.take j, by omega, by go_num, rfl, sz, R0, K2⟩
              case measure => simp [intOf]; omega
    · have hkd : decide ((k : Int) < (ps.length : Int)) = false := decide_eq_false (by omega)
      obtain rfl : k = ps.length := by omega
      have HC : Hid (ks = cleanL ps) := Lib.hid (HK.out.all rfl)
      have HOK : Hid (∀ l ∈ ks, Byts l ∧ l.length ≤ s.size) := Lib.hid HK.out.ok
      go_wp2_with fail
      obtain ⟨wo, hwo⟩ : ∃ x, x = wr := ⟨_, rfl⟩
      subst hwo
      go_loop [7, 8] (fun z i => ∃ (q : Nat) (x : List Int), q ≤ m ∧ i = .int .i64 (q : Int) ∧ z = .string (strL x) ∧ Hid (x = joinI (ks.take q) ∧ x.length ≤ q * (s.size + 1))) (fun _ i => m - (intOf i).toNat)
      case atStart => exact ⟨0, [], Nat.zero_le _, rfl, rfl, Lib.hid ⟨rfl, by simp⟩⟩
      case round =>
        obtain ⟨q, x, hq, rfl, rfl, HX⟩ := hrel
        obtain ⟨z, hz⟩ : ∃ z, strL x = z := ⟨_, rfl⟩
        have hmul : q * (s.size + 1) ≤ 10003 * 10001 := Nat.mul_le_mul (by omega) (by omega)
        have hzs : z.size ≤ 10003 * 10001 := by rw [← hz, strL_size]; have := HX.out.2; omega
        rw [hz]
        by_cases hqm : q < m
        · have hqd : decide ((q : Int) < (m : Int)) = true := decide_eq_true (by omega)
          obtain ⟨g, rfl, _, _⟩ := Own.some_ HR.out.own (by omega)
          obtain ⟨y, hy⟩ : ∃ y, ks[q]? = some y := ⟨ks[q]'(by rw [HR.out.len]; exact hqm), List.getElem?_eq_getElem _⟩
          have hy2 := HOK.out y (List.mem_of_getElem? hy)
          have kc : wo.cell? ⟨g, q, none⟩ = some (.string (strL y)) := HR.out.own.cell (sv_get hy)
          obtain ⟨u, hu⟩ : ∃ u, strL y = u := ⟨_, rfl⟩
          have hus : u.size ≤ 10000 := by rw [← hu, strL_size]; omega
          rw [hu] at kc
          have HT : Hid (ks.take (q + 1) = ks.take q ++ [y]) := Lib.hid (by
            obtain ⟨hk', he⟩ := List.getElem?_eq_some_iff.1 hy
            rw [List.take_succ_eq_append_getElem hk', he])
          have hql : (ks.take q).length = q := by rw [List.length_take, HR.out.len]; omega
          by_cases hq0 : q = 0
          · subst hq0
            have hx0 : x = [] := by have := HX.out.1; rw [List.take_zero] at this; exact this
            have A1 : ∀ wx : World, (Op.stringOp .add z u).run Tryd.prog wx = .ok (.string (strL y)) wx := fun wx => by
              rw [run_string_add_sum wx _ _ (by omega), ← hz, ← hu, hx0, ← strL_app, List.nil_append]
            have HX2 : Hid (y = joinI (ks.take (0 + 1)) ∧ y.length ≤ (0 + 1) * (s.size + 1)) := Lib.hid ⟨by rw [HT.out, List.take_zero]; rfl, by have := hy2.2; omega⟩
            clear hz hu hy hx0 hql hy2
            go_wp2
            go_round
            case rel => exact ⟨0 + 1, y, by omega, by go_num, rfl, HX2⟩
            case measure => simp [intOf]; omega
          · have dq : decide ((0 : Int) < (q : Int)) = true := decide_eq_true (by omega)
            obtain ⟨v, hv⟩ : ∃ v, strL (x ++ [47]) = v := ⟨_, rfl⟩
            have hvs : v.size ≤ 10003 * 10001 + 1 := by rw [← hv, strL_size, List.length_append, ← strL_size x, hz]; simp; omega
            have A0 : ∀ wx : World, (Op.stringOp .add z ⟨#[47]⟩).run Tryd.prog wx = .ok (.string v) wx := fun wx => by
              rw [run_string_add_sum wx _ _ (by have h1 : (⟨#[47]⟩ : ByteArray).size = 1 := rfl; omega), ← hz, ← hv, strL_app]
              rfl
            have A1 : ∀ wx : World, (Op.stringOp .add v u).run Tryd.prog wx = .ok (.string (strL (x ++ 47 :: y))) wx := fun wx => by
              rw [run_string_add_sum wx _ _ (by omega), ← hv, ← hu, ← strL_app]
              simp
            have HX2 : Hid (x ++ 47 :: y = joinI (ks.take (q + 1)) ∧ (x ++ 47 :: y).length ≤ (q + 1) * (s.size + 1)) := Lib.hid ⟨by
              rw [HT.out, join_snoc, if_neg (by intro e; rw [e] at hql; simp at hql; omega), ← HX.out.1], by
              have h1 := HX.out.2
              have h2 := hy2.2
              rw [List.length_append, List.length_cons, Nat.add_mul]
              omega⟩
            clear hz hu hv hy hql hy2
            go_wp2
            go_round
            case rel => exact ⟨q + 1, x ++ 47 :: y, by omega, by go_num, rfl, HX2⟩
            case measure => simp [intOf]; omega
        · have hqd : decide ((q : Int) < (m : Int)) = false := decide_eq_false (by omega)
          have hx : x = joinI (cleanL ps) := by rw [HX.out.1, ← HC.out, List.take_of_length_le (by rw [HR.out.len]; omega)]
          have HVX : Hid (strL (if x.head? = some 47 then x else 47 :: x) = t) := Lib.hid (by rw [← HV.out, hx])
          have HBX : Hid (Byts x) := Lib.hid (by rw [hx, ← HC.out]; exact join_byts _ fun l hl => (HOK.out l hl).1)
          have HBE : Hid (Below w.heap.size w wo) := Lib.hid HR.out.bel
          have A1 : Hid (x.head? ≠ some 47 → ∀ wx : World, (Op.stringOp .add ⟨#[47]⟩ z).run Tryd.prog wx = .ok (.string t) wx) := Lib.hid (fun hn wx => by
            rw [run_string_add_sum wx _ _ (by have h1 : (⟨#[47]⟩ : ByteArray).size = 1 := rfl; omega), ← HVX.out, if_neg hn, ← hz]
            exact congrArg (fun v => Result.ok (Value.string v) wx) (strL_app [47] x).symm)
          clear hx
          cases hxc : x with
          | nil =>
            have z0 : (z.size : Int) = 0 := by rw [← hz, strL_size, hxc]; rfl
            have d0 : ((z.size : Int) == 0) = true := beq_iff_eq.2 z0
            have A2 := A1.out (by rw [hxc]; simp)
            clear hz hxc z0
            go_wp2
            go_ret
            exact ⟨rfl, HBE.out⟩
          | cons c r =>
            have zl : 0 < z.size := by rw [← hz, strL_size, hxc]; simp
            have d0 : ((z.size : Int) == 0) = false := beq_eq_false_iff_ne.2 (by omega)
            have hz0 : ¬ (z.size : Int) = 0 := by omega
            have hc : (z[0].toNat : Int) = c := by
              have h1 := btL_at z 0 zl
              have h2 : btL z = x := by rw [← hz, btL_strL HBX.out]
              rw [h2, hxc] at h1
              simpa using h1.symm
            by_cases h47 : c = 47
            · have dc : (c != 47) = false := by rw [bne_eq_false_iff_eq]; exact h47
              have HE : Hid (z = t) := Lib.hid (by rw [← HVX.out, if_pos (by rw [hxc, h47]; rfl), hz])
              clear hz hxc h47
              go_wp2
              go_ret
              rw [HE.out]
              exact ⟨rfl, HBE.out⟩
            · have dc : (c != 47) = true := bne_iff_ne.2 h47
              have A2 := A1.out (by rw [hxc]; simpa using h47)
              clear hz hxc h47
              go_wp2
              go_ret
              exact ⟨rfl, HBE.out⟩
end Go.Proofs.YtcdodpkfhkfnkaaDoor
namespace Go.Proofs.YtcdodpkfhkfnkaaDoor
open Go.RowKit
set_option linter.unusedVariables false
set_option linter.unusedSimpArgs false
set_option maxRecDepth 10000

theorem small_mem (c : Int) : decide (c ∈ btL (⟨#[97, 98, 99, 100, 101, 102, 103, 104, 105, 106, 107, 108, 109, 110, 111, 112, 113, 114, 115, 116, 117, 118, 119, 120, 121, 122, 48, 49, 50, 51, 52, 53, 54, 55, 56, 57, 45]⟩ : ByteArray)) = smallI c := by
  unfold smallI
  rw [decide_eq_decide]
  simp [btL]
  omega
theorem lab_short {p : List Int} (h : p.length < 1) : labI p = false := by unfold labI; rw [decide_eq_false (by omega)]; rfl
theorem lab_long {p : List Int} (h : 63 < p.length) : labI p = false := by unfold labI; rw [decide_eq_false (show ¬ p.length ≤ 63 by omega)]; simp
theorem lab_head {p : List Int} (h : p.head? = some 45) : labI p = false := by unfold labI; rw [decide_eq_false (show ¬ p.head? ≠ some 45 from fun e => e h)]; simp
theorem lab_last {p : List Int} (h : p.getLast? = some 45) : labI p = false := by unfold labI; rw [decide_eq_false (show ¬ p.getLast? ≠ some 45 from fun e => e h)]; simp
theorem lab_in {p : List Int} (h1 : ¬ p.length < 1) (h2 : ¬ 63 < p.length) (h3 : p.head? ≠ some 45) (h4 : p.getLast? ≠ some 45) : labI p = p.all smallI := by
  unfold labI
  rw [decide_eq_true (show 1 ≤ p.length by omega), decide_eq_true (show p.length ≤ 63 by omega), decide_eq_true h3, decide_eq_true h4]
  simp
theorem all_drop {α : Type} {f : α → Bool} {l : List α} {k : Nat} {x : α} (h : l[k]? = some x) : (l.drop k).all f = (f x && (l.drop (k + 1)).all f) := by
  obtain ⟨hk, he⟩ := List.getElem?_eq_some_iff.1 h
  rw [List.drop_eq_getElem_cons hk, he, List.all_cons]
set_option maxHeartbeats 2000000 in
theorem rnamed_at (s : ByteArray) (b : Bool) (hb : ((splI 46 (btL s)).all labI && decide (s.size ≤ 100)) = b) (hs : s.size ≤ 10000) (w : World) :
    Calls Tryd.prog 58 #[.string s] w fun e w' => e = .returned (.bool b) ∧ Below w.heap.size w w' := by
  obtain ⟨ps, hps⟩ : ∃ ps, splI 46 (btL s) = ps := ⟨_, rfl⟩
  have hn0 : 0 < ps.length := by rw [← hps]; exact List.length_pos_iff.2 (splI_ne _ _)
  have hn1 : ps.length ≤ 10001 := by have := spl_count 46 (btL s); rw [hps, btL_length] at this; omega
  have HPS : Hid (∀ p ∈ ps, Byts p ∧ p.length ≤ s.size) := Lib.hid (fun p hp => by
    rw [← hps] at hp
    have := spl_mem 46 _ p hp
    exact ⟨this.2 (btL_byts s), by rw [← btL_length s]; exact this.1⟩)
  have HS : Hid (Calls Tryd.prog 65 #[.string s, .int .u8 46] w (SplO (btL s) 46 w)) := Lib.hid (rsplit_at s 46 hs w)
  have HPQ := Lib.hid hps
  rw [hps] at hb
  have HB := Lib.hid hb
  clear hps hb
  go_enter Tryd.func58, Tryd.ntmps58
  go_wp2_with fail
  refine HS.out.mono ?_
  rintro e w1 ⟨ap, capp, rfl, ow1, bel1⟩
  rw [HPQ.out] at ow1 ⊢
  obtain ⟨gp, rfl, gp1, gp2⟩ := Own.some_ ow1 hn0
  have OW := Lib.hid ow1
  have BEL := Lib.hid bel1
  clear ow1 bel1 HS HPQ
  go_wp2_with fail
  go_loop [4, 5, 6] (fun i _ _ => ∃ k : Nat, k ≤ ps.length ∧ i = .int .i64 (k : Int) ∧ Hid (((ps.drop k).all labI && decide (s.size ≤ 100)) = b)) (fun i _ _ => ps.length - (intOf i).toNat)
  case atStart => exact ⟨0, Nat.zero_le _, rfl, by rw [List.drop_zero]; exact HB⟩
  case round =>
    obtain ⟨k, hk, rfl, HK⟩ := hrel
    by_cases hlt : k < ps.length
    · have hkd : decide ((k : Int) < (ps.length : Int)) = true := decide_eq_true (by omega)
      obtain ⟨p, hp⟩ : ∃ p, ps[k]? = some p := ⟨ps[k], List.getElem?_eq_getElem hlt⟩
      have HPB := Lib.hid (HPS.out p (List.mem_of_getElem? hp))
      have kc : w1.cell? ⟨gp, k, none⟩ = some (.string (strL p)) := OW.out.cells hp
      have HK2 : Hid ((labI p && (ps.drop (k + 1)).all labI && decide (s.size ≤ 100)) = b) := Lib.hid (by rw [← all_drop hp]; exact HK.out)
      have HNO : Hid (labI p = false → false = b) := Lib.hid (fun h => by rw [← HK2.out, h]; rfl)
      obtain ⟨u, hu⟩ : ∃ u, strL p = u := ⟨_, rfl⟩
      rw [hu] at kc
      have hul : u.size = p.length := by rw [← hu, strL_size]
      have hbu : Hid (btL u = p) := Lib.hid (by rw [← hu, btL_strL HPB.out.1])
      clear hp hu
      by_cases h1 : u.size < 1
      · have d1 : decide ((u.size : Int) < 1) = true := decide_eq_true (by omega)
        have HE := Lib.hid (HNO.out (lab_short (by omega)))
        clear hul
        go_wp2
        go_ret
        rw [← HE.out]
        exact ⟨rfl, BEL.out⟩
      · have d1 : decide ((u.size : Int) < 1) = false := decide_eq_false (by omega)
        by_cases h2 : 63 < u.size
        · have d2 : decide ((63 : Int) < (u.size : Int)) = true := decide_eq_true (by omega)
          have HE := Lib.hid (HNO.out (lab_long (by omega)))
          clear hul
          go_wp2
          go_ret
          rw [← HE.out]
          exact ⟨rfl, BEL.out⟩
        · have d2 : decide ((63 : Int) < (u.size : Int)) = false := decide_eq_false (by omega)
          have z0 : 0 < u.size := by omega
          obtain ⟨c0, hc0⟩ : ∃ c : Int, (u[0].toNat : Int) = c := ⟨_, rfl⟩
          have hh : p.head? = some c0 := by
            have := btL_at u 0 z0
            rw [hbu.out, hc0] at this
            rw [List.head?_eq_getElem?]; exact this
          by_cases h3 : c0 = 45
          · have d3 : (c0 == 45) = true := beq_iff_eq.2 h3
            have HE := Lib.hid (HNO.out (lab_head (by rw [hh, h3])))
            clear hul hh h3
            go_wp2
            go_ret
            rw [← HE.out]
            exact ⟨rfl, BEL.out⟩
          · have d3 : (c0 == 45) = false := beq_eq_false_iff_ne.2 h3
            obtain ⟨j, hj⟩ : ∃ j, u.size = j + 1 := ⟨u.size - 1, by omega⟩
            have hq : (u.size : Int) - 1 = (j : Int) := by omega
            have hj1 : j < u.size := by omega
            obtain ⟨cl, hcl⟩ : ∃ c : Int, (u[j].toNat : Int) = c := ⟨_, rfl⟩
            have hl : p.getLast? = some cl := by
              have := btL_at u j hj1
              rw [hbu.out, hcl] at this
              rw [List.getLast?_eq_getElem?, show p.length - 1 = j from by omega]; exact this
            by_cases h4 : cl = 45
            · have d4 : (cl == 45) = true := beq_iff_eq.2 h4
              have HE := Lib.hid (HNO.out (lab_last (by rw [hl, h4])))
              clear hul hh hl h3 h4 hj
              go_wp2
              go_ret
              rw [← HE.out]
              exact ⟨rfl, BEL.out⟩
            · have d4 : (cl == 45) = false := beq_eq_false_iff_ne.2 h4
              have HLAB : Hid (labI p = p.all smallI) := Lib.hid (lab_in (by omega) (by omega) (by rw [hh]; simpa using h3) (by rw [hl]; simpa using h4))
              have HUL := Lib.hid hul
              clear hul hh hl h3 h4 hj
              go_wp2_with fail
              go_loop [6] (fun i => ∃ q : Nat, q ≤ u.size ∧ i = .int .i64 (q : Int) ∧ Hid (p.all smallI = (p.drop q).all smallI)) (fun i => u.size - (intOf i).toNat)
              case atStart => exact ⟨0, Nat.zero_le _, rfl, Lib.hid (by rw [List.drop_zero])⟩
              case round =>
                obtain ⟨q, hq2, rfl, HQ⟩ := hrel
                by_cases hqs : q < u.size
                · have hqd : decide ((q : Int) < (u.size : Int)) = true := decide_eq_true (by omega)
                  obtain ⟨x, hx⟩ : ∃ x : Int, (u[q].toNat : Int) = x := ⟨_, rfl⟩
                  have HX : Hid (p[q]? = some x) := Lib.hid (by rw [← hbu.out, btL_at u q hqs, hx])
                  obtain ⟨y, hy⟩ : ∃ y, smallI x = y := ⟨_, rfl⟩
                  have HY := Lib.hid hy
                  clear hy
                  go_wp2_with fail
                  refine (rin_as _ x y (by rw [small_mem]; exact HY.out) (by decide) _).mono ?_
                  rintro e w2 ⟨rfl, hw⟩
                  subst w2
                  cases y with
                  | true =>
                    have HQ2 : Hid (p.all smallI = (p.drop (q + 1)).all smallI) := Lib.hid (by rw [HQ.out, all_drop HX.out, HY.out, Bool.true_and])
                    go_wp2
                    go_round
                    case rel => exact ⟨q + 1, by omega, by go_num, HQ2⟩
                    case measure => simp [intOf]; omega
                  | false =>
                    have HE := Lib.hid (HNO.out (by rw [HLAB.out, HQ.out, all_drop HX.out, HY.out, Bool.false_and]))
                    go_wp2
                    go_ret
                    rw [← HE.out]
                    exact ⟨rfl, BEL.out⟩
                · have hqd : decide ((q : Int) < (u.size : Int)) = false := decide_eq_false (by omega)
                  have HK3 : Hid (((ps.drop (k + 1)).all labI && decide (s.size ≤ 100)) = b) := Lib.hid (by
                    have h1 : labI p = true := by rw [HLAB.out, HQ.out, List.drop_eq_nil_of_le (by have := HUL.out; omega)]; rfl
                    have := HK2.out
                    rwa [h1, Bool.true_and] at this)
                  go_wp2
                  go_round
                  case rel => exact ⟨k + 1, by omega, by go_num, HK3⟩
                  case measure => simp [intOf]; omega
    · have hkd : decide ((k : Int) < (ps.length : Int)) = false := decide_eq_false (by omega)
      have HE : Hid (decide (s.size ≤ 100) = b) := Lib.hid (by
        have := HK.out
        rwa [List.drop_eq_nil_of_le (by omega), List.all_nil, Bool.true_and] at this)
      by_cases h : s.size ≤ 100
      · have d : decide ((s.size : Int) ≤ 100) = true := decide_eq_true (by omega)
        have HE2 : Hid (true = b) := Lib.hid (by rw [← HE.out, decide_eq_true h])
        go_wp2
        go_ret
        rw [← HE2.out]
        exact ⟨rfl, BEL.out⟩
      · have d : decide ((s.size : Int) ≤ 100) = false := decide_eq_false (by omega)
        have HE2 : Hid (false = b) := Lib.hid (by rw [← HE.out, decide_eq_false h])
        go_wp2
        go_ret
        rw [← HE2.out]
        exact ⟨rfl, BEL.out⟩
end Go.Proofs.YtcdodpkfhkfnkaaDoor
