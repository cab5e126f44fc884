/- Package queue: the library's Insert of one request: in place; at the end; into a new row. -/
import Derived.Test.YtbifnmlhbepadaaQuBin
import Derived.Laws.Externs
import Derived.Lib.SliceRun
import Derived.Shelf.RegionOpenPlain
namespace Go.Proofs.Ytbifnmlhbepadaa
open Go Go.RowKit
set_option linter.unusedVariables false
set_option linter.unusedSimpArgs false
set_option maxRecDepth 10000

theorem sliceFrom_run {P : Program} {T E : TypeId} {size bytes : Nat} (hT : RowTy P T E size bytes) (g off len cap lo : Nat) (hlo : lo ≤ len) (hc : lo < cap) (w : World) :
    (Instr.sliceAt T (.slice (some ⟨g, off, none⟩) len cap) (some (.int .i64 lo)) none none).run P w = .ok (.slice (some ⟨g, off + lo * size, none⟩) (len - lo) (cap - lo)) w := by
  obtain ⟨i, z, hi, hz, hs, hb, hzs⟩ := hT.parts
  have h : ¬ cap = lo := by omega
  simp [Instr.sliceAt, Instr.slice, run_underlying hT.und, Instr.sliceBounds, Instr.sliceBound, asIntOf, sizeOf, typeInfo, hi, hs, hlo, h, go_sem, Go.WideShapes.add_plain]
theorem box_shape {w : World} {b : Nat} {cs : Array Value} {t : TypeId} (h : w.heap[b]? = some (.cells cs t (0, 0))) : w.shape? b = some (t, cs.size) := by
  unfold World.shape?
  rw [h]
/-- What an insertion gives. -/
def InsP (B : Nat) (a : Option Addr) (rs : List Rq) (r : Rq) (i n : Nat) (w : World) (e : Ending) (w' : World) : Prop :=
  ∃ a' cap', e = .returned (.slice a' (n + 1) cap') ∧ Own w' B 27 5 a' (n + 1) cap' (rqC (rs.take i ++ r :: rs.drop i)) ∧ w.grownBy w' (a.map (·.block)) ∧ (a' = a ∨ ∃ g, a' = some ⟨g, 0, none⟩ ∧ w.heap.size ≤ g)
theorem rqC_mid (rs : List Rq) (r : Rq) (i : Nat) : rqC (rs.take i ++ r :: rs.drop i) = (rqC rs).take (i * 5) ++ rqL r ++ (rqC rs).drop (i * 5) := by
  rw [rqC_app, rqC_cons, rqC_take, rqC_drop, List.append_assoc]
theorem grown_setRow2 {w : World} {g : Nat} (c1 c2 : Array Value) : w.grownBy ((w.drew.setRow g c1).setRow g c2) (some g) :=
  ⟨rfl, rfl, rfl, by rw [setRow_size, setRow_size]; exact Nat.le_refl _, fun k hk hne => by
    have hkg : k ≠ g := fun e => hne (by rw [e])
    rw [setRow_other _ _ _ _ hkg, setRow_other _ _ _ _ hkg]
    rfl⟩
set_option maxHeartbeats 4000000 in
theorem ins_shift {w : World} {B g n cap vb i : Nat} {rs : List Rq} {r : Rq} (ho : Own w B 27 5 (some ⟨g, 0, none⟩) n cap (rqC rs)) (hl : rs.length = n) (hi : i < n) (hroom : n + 1 ≤ cap) (hv : Box w vb (rqA r) 27) (hne : vb ≠ g) :
    Calls Try.prog 51 #[.slice (some ⟨g, 0, none⟩) n cap, .int .i64 i, .slice (some ⟨vb, 0, none⟩) 1 1] w (InsP B (some ⟨g, 0, none⟩) rs r i n w) := by
  obtain ⟨cur, hg, hsz, htk, hnc, hm, hB⟩ := ho.block
  have hlx := rqC_len rs
  rw [hl] at hlx
  have hm2 : cap ≤ 9223372036854775807 := hm
  obtain ⟨c1, hc1⟩ : ∃ c1, c1 = cur.toList.take ((i + 1) * 5) ++ (rqC rs).drop (i * 5) ++ cur.toList.drop ((i + 1) * 5 + ((rqC rs).drop (i * 5)).length) := ⟨_, rfl⟩
  obtain ⟨c2, hc2⟩ : ∃ c2, c2 = c1.take (i * 5) ++ rqL r ++ c1.drop (i * 5 + (rqL r).length) := ⟨_, rfl⟩
  obtain ⟨k1, k2, k3⟩ := ins_cells (size := 5) (n := n) (i := i) (cap := cap) (by simpa using hsz) htk (by omega) hroom (rqL_len r) c1 c2 hc1 hc2
  have hov : ∀ lb cb, (callFunc 59 #[.slice (some ⟨vb, 0, none⟩) 1 1, .slice (some ⟨g, (i + 1) * 5, none⟩) lb cb]).run Try.prog w = .ok (.value (.bool false)) w := fun lb cb => by
    rw [run_callFunc_extern Try.func59 (by kernel_rfl) (by kernel_rfl) (by kernel_rfl) (e := Extern.SlicesOverlaps.overlaps #[25, 25] #[4]) (by kernel_rfl),
      Lib.run_overlaps_apart w 25 4 27 Try.underlying25 5 (fun w => by kernel_rfl) ⟨vb, 0, none⟩ ⟨g, (i + 1) * 5, none⟩ 1 1 lb cb hne _ _ _ _ (box_shape hv) (box_shape hg) (by rw [hsz]; omega) (hv.free 0) (hv.free _)]
    rfl
  have hld : ((rqC rs).drop (i * 5)).length = (n - i) * 5 := by rw [List.length_drop, hlx]; omega
  have hcp1 : ∀ ty dc sc, (Builtin.copy_ #[25, 25] ty #[.slice (some ⟨g, (i + 1) * 5, none⟩) (n - i) dc, .slice (some ⟨g, i * 5, none⟩) (n + 1 - i) sc]).run Try.prog w.drew = .ok (goInt ((n - i : Nat) : Int)) (w.drew.setRow g c1.toArray) := fun ty dc sc => by
    rw [hc1]
    refine run_copy_rowN w.drew _ _ ty 27 5 g ((i + 1) * 5) (n - i) dc ⟨g, i * 5, none⟩ (n + 1 - i) sc cur 27 ((rqC rs).drop (i * 5)) (n - i) rowQ.und rowQ.sz hg (by simp only [Nat.min_def]; split <;> omega) hld (fun j v hj => ?_) (by rw [hld, hsz]; omega) (fun v hv => rqC_one rs v (List.mem_of_mem_drop hv))
    rw [Addr.add_lit]
    rw [List.getElem?_drop] at hj
    exact ho.cell hj
  obtain ⟨W1, hW1⟩ : ∃ W1, W1 = w.drew.setRow g c1.toArray := ⟨_, rfl⟩
  have hg1 : W1.heap[g]? = some (.cells c1.toArray 27 (0, 0)) := by rw [hW1]; exact setRow_heap _ _ cur _ _ _ hg
  have hcp2 : ∀ ty dc, (Builtin.copy_ #[25, 25] ty #[.slice (some ⟨g, i * 5, none⟩) (n + 1 - i) dc, .slice (some ⟨vb, 0, none⟩) 1 1]).run Try.prog W1 = .ok (goInt 1) (W1.setRow g c2.toArray) := fun ty dc => by
    rw [hc2]
    have := run_copy_rowN (P := Try.prog) W1 25 25 ty 27 5 g (i * 5) (n + 1 - i) dc ⟨vb, 0, none⟩ 1 1 c1.toArray 27 (rqL r) 1 rowQ.und rowQ.sz hg1 (by simp only [Nat.min_def]; split <;> omega) (rqL_len r) (fun j v hj => by
      rw [Addr.add_lit, Nat.zero_add, hW1, cell_setRow_other _ _ _ _ hne]
      have h := hv.cell j
      have e : (rqA r)[j]? = some v := by rw [← Array.getElem?_toList]; exact hj
      exact h.trans e) (by rw [rqL_len]; simp only [List.size_toArray, k1]; omega) (rqL_one r)
    simpa using this
  have FIN : Hid (InsP B (some ⟨g, 0, none⟩) rs r i n w (.returned (.slice (some ⟨g, 0, none⟩) (n + 1) cap)) (W1.setRow g c2.toArray)) := Lib.hid
    ⟨_, _, rfl, by rw [rqC_mid]; exact Own.of_block (setRow_heap _ _ _ _ _ _ hg1) (by simpa using k2) (by simpa using k3) hroom hm hB, by rw [hW1]; exact grown_setRow2 _ _, Or.inl rfl⟩
  rw [← hW1] at hcp1
  have S1 := fun W => sliceFrom_run (P := Try.prog) rowQ g 0 n cap i (by omega) (by omega) W
  have S2 : ∀ W, (Instr.sliceAt 25 (.slice (some ⟨g, 0, none⟩) n cap) none (some (.int .i64 ((n : Int) + 1))) none).run Try.prog W = .ok (.slice (some ⟨g, 0, none⟩) (n + 1) cap) W := fun W => by
    rw [show ((n : Int) + 1) = ((n + 1 : Nat) : Int) from by omega]
    exact sliceTo_run rowQ _ _ _ _ hroom W (fun h => by cases h)
  have S3 : ∀ W, (Instr.sliceAt 25 (.slice (some ⟨g, 0, none⟩) (n + 1) cap) (some (.int .i64 ((i : Int) + 1))) none none).run Try.prog W = .ok (.slice (some ⟨g, (i + 1) * 5, none⟩) (n - i) (cap - (i + 1))) W := fun W => by
    rw [show ((i : Int) + 1) = ((i + 1 : Nat) : Int) from by omega]
    have := sliceFrom_run (P := Try.prog) rowQ g 0 (n + 1) cap (i + 1) (by omega) (by omega) W
    rwa [Nat.zero_add, show n + 1 - (i + 1) = n - i from by omega] at this
  have S4 : ∀ W, (Instr.sliceAt 25 (.slice (some ⟨g, 0, none⟩) (n + 1) cap) (some (.int .i64 (i : Int))) none none).run Try.prog W = .ok (.slice (some ⟨g, i * 5, none⟩) (n + 1 - i) (cap - i)) W := fun W => by
    have := sliceFrom_run (P := Try.prog) rowQ g 0 (n + 1) cap i (by omega) (by omega) W
    rwa [Nat.zero_add] at this
  rw [Nat.zero_add] at S1
  have hz2 : ((i : Int) == (n : Int)) = false := beq_eq_false_iff_ne.2 (by omega)
  have hz3 : decide ((cap : Int) < (n : Int) + 1) = false := decide_eq_false (by omega)
  have mixed : Try.prog.follows .mixedOrders = true := by kernel_rfl
  have hw1 : IntKind.i64.wrap ((i : Int) + 1) = (i : Int) + 1 := by rw [IntKind.wrap_i64]; omega
  clear ho hl hv hne hg hsz htk hB hlx hc1 hc2 k1 k2 k3 hld hW1 hg1 hm
  go_enter Try.func51, Try.ntmps51
  go_wp2_with (simp only [hov])
  go_region_law_o (refine step_copyN _ rfl _ _ 25 25 rfl _ _ (by simp [Act.eval, Act.put]) (by simp [Act.eval, Act.put]) (hcp1 _ _ _) ?_)
  go_wp2_with (at_builtin; refine wpList_copyN _ rfl _ _ 25 25 rfl _ _ rfl rfl (hcp2 _ _) ?_)
  go_ret
  exact FIN.out
theorem sliceEnd_run {P : Program} {T E : TypeId} {size bytes : Nat} (hT : RowTy P T E size bytes) {w0 : World} {B n cap : Nat} {a : Option Addr} {xs : List Value} (ho : Own w0 B E size a n cap xs) :
    ∃ v, ∀ w, (Instr.sliceAt T (.slice a n cap) (some (.int .i64 n)) none none).run P w = .ok v w := by
  obtain ⟨i, z, hi, hz, hs, hb, hzs⟩ := hT.parts
  rcases ho.form with ⟨rfl, rfl, rfl⟩ | ⟨g, rfl, _⟩
  · refine ⟨.slice none 0 0, fun w => ?_⟩
    simp [Instr.sliceAt, Instr.slice, run_underlying hT.und, Instr.sliceBounds, Instr.sliceBound, asIntOf, sizeOf, typeInfo, hi, go_sem]
  · by_cases h : cap = n
    · subst h
      refine ⟨.slice (some ⟨g, 0, none⟩) 0 0, fun w => ?_⟩
      simp [Instr.sliceAt, Instr.slice, run_underlying hT.und, Instr.sliceBounds, Instr.sliceBound, asIntOf, sizeOf, typeInfo, hi, go_sem]
    · have := ho.cap_le
      exact ⟨_, fun w => sliceFrom_run hT g 0 n cap n (Nat.le_refl _) (by omega) w⟩
set_option maxHeartbeats 4000000 in
theorem ins_end {w : World} {B n cap vb : Nat} {a : Option Addr} {rs : List Rq} {r : Rq} (ho : Own w B 27 5 a n cap (rqC rs)) (hl : rs.length = n) (hn2 : n ≤ 999999) (hB : B ≤ w.heap.size) (hv : Box w vb (rqA r) 27) :
    Calls Try.prog 51 #[.slice a n cap, .int .i64 n, .slice (some ⟨vb, 0, none⟩) 1 1] w (InsP B a rs r n n w) := by
  obtain ⟨v1, S1⟩ := sliceEnd_run (P := Try.prog) rowQ ho
  have HO := Lib.hid ho
  have HV : Hid (∀ j u, (rqL r)[j]? = some u → w.cell? ⟨vb, 0 + j, none⟩ = some u) := Lib.hid (fun j u hj => by
    rw [Nat.zero_add]
    have e : (rqA r)[j]? = some u := by rw [← Array.getElem?_toList]; exact hj
    exact (hv.cell j).trans e)
  have FIN : Hid (∀ g cap' w', Own w' B 27 5 (some ⟨g, 0, none⟩) (n + 1) cap' (rqC rs ++ rqL r) → w.grownBy w' (a.map (·.block)) → Below B w w' → (a.map (·.block) = some g ∨ g = w.heap.size) → InsP B a rs r n n w (.returned (.slice (some ⟨g, 0, none⟩) (n + 1) cap')) w') := Lib.hid (fun g cap' w' q1 q2 q3 q4 => by
    refine ⟨_, _, rfl, ?_, q2, ?_⟩
    · rw [List.take_of_length_le (by omega), List.drop_of_length_le (by omega), rqC_app, rqC_cons, rqC_nil, List.append_nil]
      exact q1
    · rcases q4 with q4 | q4
      · left
        rcases ho.form with ⟨rfl, _, _⟩ | ⟨g', rfl, _⟩
        · cases q4
        · injection q4 with q4
          rw [← q4]
      · exact Or.inr ⟨g, rfl, by omega⟩)
  have hz2 : ((n : Int) == (n : Int)) = true := by simp
  clear ho hv hl
  go_enter Try.func51, Try.ntmps51
  go_wp2_with (at_builtin; refine wpList_appR rowQ rfl _ _ rfl B a n cap (rqC rs) rfl HO.out vb 0 1 1 (rqL r) rfl (by omega) rfl HV.out (rqL_one r) (by omega) (by decide) hB (n + 1) rfl (rqC rs ++ rqL r) rfl ?_; rintro g' cap2 w3 q1 q2 q3 q4; have Q := FIN.out g' cap2 w3 q1 q2 q3 q4; clear q1 q2 q3 q4 FIN HO HV)
  go_ret
  exact Q
set_option maxHeartbeats 4000000 in
theorem ins_more {w : World} {B g n vb i : Nat} {rs : List Rq} {r : Rq} (ho : Own w B 27 5 (some ⟨g, 0, none⟩) n n (rqC rs)) (hl : rs.length = n) (hn2 : n ≤ 999999) (hi : i < n) (hB : B ≤ w.heap.size) (hv : Box w vb (rqA r) 27) :
    Calls Try.prog 51 #[.slice (some ⟨g, 0, none⟩) n n, .int .i64 i, .slice (some ⟨vb, 0, none⟩) 1 1] w (InsP B (some ⟨g, 0, none⟩) rs r i n w) := by
  obtain ⟨i0, z, h1, h2, h3, h4, h5⟩ := rowQ.parts
  have hlx := rqC_len rs
  rw [hl] at hlx
  have gw := ho.lt.2
  have vw := hv.lt
  obtain ⟨gc, hgc⟩ : ∃ gc, grownCap w (n + 1) n 27 = gc := ⟨_, rfl⟩
  have hg1 : n + 1 ≤ gc := by rw [← hgc]; exact grownCap_ge _ _ _ _
  have hg2 : gc ≤ maxLen := by rw [← hgc]; exact grownCap_le_maxLen _ _ _ _ (by unfold maxLen; omega)
  have holds : (Builtin.firstCells i0.size i (.slice (some ⟨g, 0, none⟩) i n)).run Try.prog w.drew = .ok ((rqC rs).take (i * 5)).toArray w.drew := by
    have hll : ((rqC rs).take (i * 5)).length = i * 5 := by rw [List.length_take, hlx]; omega
    have := run_loadCells_list (P := Try.prog) w.drew ⟨g, 0, none⟩ ((rqC rs).take (i * 5)) (fun j v hj => by
      rw [Addr.add_lit, Nat.zero_add]
      rw [List.getElem?_take] at hj
      split at hj
      · exact ho.cell hj
      · cases hj)
    rw [hll] at this
    rw [h3]
    exact this
  have hap := Lib.run_append_grow_zeros (P := Try.prog) w 25 3 25 27 i0 z .i64 .i64 rowQ.und Try.underlying3 h1 h2 (some ⟨g, 0, none⟩) i n _ holds (n + 1 - i) (by omega) (by rw [h3]; omega) (by omega) (by omega) (by rw [h4]; omega)
    (by rw [h4]; exact Nat.le_trans (Nat.mul_le_mul_right _ (nextslicecap_le (by omega))) (by omega))
  rw [show i + (n + 1 - i) = n + 1 from by omega, hgc, show (((n + 1 - i : Nat)) : Int) = (n : Int) + 1 - (i : Int) from by omega] at hap
  obtain ⟨zs, hzs⟩ : ∃ zs, (((rqC rs).take (i * 5)).toArray ++ Builtin.zeroCells z.cells (n + 1 - i) ++ Builtin.zeroCells z.cells (gc - (n + 1))) = zs := ⟨_, rfl⟩
  rw [hzs] at hap
  have hzc : ∀ k, (Builtin.zeroCells z.cells k).size = k * 5 := fun k => by unfold Builtin.zeroCells; simp [h5]
  have hz1 : zs.toList.length = gc * 5 := by
    rw [← hzs]
    simp only [Array.length_toList, Array.size_append, List.size_toArray, List.length_take, hzc, hlx]
    omega
  have hz2 : zs.toList.take (i * 5) = (rqC rs).take (i * 5) := by
    rw [← hzs, Array.toList_append, Array.toList_append, List.append_assoc, List.take_append_of_le_length (by simp only [List.length_take, hlx]; omega), List.take_of_length_le (by simp only [List.length_take]; omega)]
  obtain ⟨c1, hc1⟩ : ∃ c1, c1 = zs.toList.take (i * 5) ++ rqL r ++ zs.toList.drop (i * 5 + (rqL r).length) := ⟨_, rfl⟩
  obtain ⟨c2, hc2⟩ : ∃ c2, c2 = c1.take ((i + 1) * 5) ++ (rqC rs).drop (i * 5) ++ c1.drop ((i + 1) * 5 + ((rqC rs).drop (i * 5)).length) := ⟨_, rfl⟩
  obtain ⟨k1, k2, k3⟩ := ins_grow (size := 5) (n := n) (i := i) (cap := gc) hz1 hlx hz2 (by omega) hg1 (rqL_len r) c1 c2 hc1 hc2
  obtain ⟨W1, hW1⟩ : ∃ W1, w.drew.alloc (.cells zs 27) = W1 := ⟨_, rfl⟩
  rw [hW1] at hap
  obtain ⟨G, hG⟩ : ∃ G, w.heap.size = G := ⟨_, rfl⟩
  have hbG : W1.heap[G]? = some (.cells zs 27 (0, 0)) := by rw [← hW1, ← hG]; exact heap_alloc_new w.drew _
  have hblk : ∀ k, k < G → W1.heap[k]? = w.heap[k]? := fun k hk => by rw [← hW1]; exact Below.heap_alloc w.drew _ k (by rw [← hG] at hk; exact hk)
  have hc : ∀ k j, k < G → W1.cell? ⟨k, j, none⟩ = w.cell? ⟨k, j, none⟩ := fun k j hk => cell_blk (hblk k hk) j
  have hcp1 : ∀ ty dc, (Builtin.copy_ #[25, 25] ty #[.slice (some ⟨G, i * 5, none⟩) (n + 1 - i) dc, .slice (some ⟨vb, 0, none⟩) 1 1]).run Try.prog W1 = .ok (goInt 1) (W1.setRow G c1.toArray) := fun ty dc => by
    rw [hc1]
    have := run_copy_rowN (P := Try.prog) W1 25 25 ty 27 5 G (i * 5) (n + 1 - i) dc ⟨vb, 0, none⟩ 1 1 zs 27 (rqL r) 1 rowQ.und rowQ.sz hbG (by simp only [Nat.min_def]; split <;> omega) (rqL_len r) (fun j v hj => by
      rw [Addr.add_lit, Nat.zero_add, hc vb j (by omega)]
      have h := hv.cell j
      have e : (rqA r)[j]? = some v := by rw [← Array.getElem?_toList]; exact hj
      exact h.trans e) (by rw [rqL_len, ← Array.length_toList, hz1]; omega) (rqL_one r)
    simpa using this
  obtain ⟨W2, hW2⟩ : ∃ W2, W1.setRow G c1.toArray = W2 := ⟨_, rfl⟩
  rw [hW2] at hcp1
  have hbG2 : W2.heap[G]? = some (.cells c1.toArray 27 (0, 0)) := by rw [← hW2]; exact setRow_heap _ _ _ _ _ _ hbG
  have hcp2 : ∀ ty dc sc, (Builtin.copy_ #[25, 25] ty #[.slice (some ⟨G, (i + 1) * 5, none⟩) (n - i) dc, .slice (some ⟨g, i * 5, none⟩) (n - i) sc]).run Try.prog W2.drew = .ok (goInt ((n - i : Nat) : Int)) (W2.drew.setRow G c2.toArray) := fun ty dc sc => by
    have hld : ((rqC rs).drop (i * 5)).length = (n - i) * 5 := by rw [List.length_drop, hlx]; omega
    rw [hc2]
    refine run_copy_rowN W2.drew _ _ ty 27 5 G ((i + 1) * 5) (n - i) dc ⟨g, i * 5, none⟩ (n - i) sc c1.toArray 27 ((rqC rs).drop (i * 5)) (n - i) rowQ.und rowQ.sz hbG2 (by simp only [Nat.min_def]; split <;> omega) hld (fun j v hj => ?_) (by rw [hld]; simp only [List.size_toArray, k1]; omega) (fun v hv => rqC_one rs v (List.mem_of_mem_drop hv))
    rw [Addr.add_lit]
    rw [List.getElem?_drop] at hj
    have e1 : W2.drew.cell? ⟨g, i * 5 + j, none⟩ = W1.cell? ⟨g, i * 5 + j, none⟩ := by rw [← hW2]; exact cell_setRow_other _ _ _ _ (by show g ≠ G; omega)
    rw [e1, hc g _ (by omega)]
    exact ho.cell hj
  have FIN : Hid (InsP B (some ⟨g, 0, none⟩) rs r i n w (.returned (.slice (some ⟨G, 0, none⟩) (n + 1) gc)) (W2.drew.setRow G c2.toArray)) := Lib.hid
    ⟨_, _, rfl, by rw [rqC_mid]; exact Own.of_block (setRow_heap _ _ _ _ _ _ hbG2) (by simpa using k2) (by simpa using k3) hg1 hg2 (by omega),
      ⟨by rw [← hW2, ← hW1]; rfl, by rw [← hW2, ← hW1]; rfl, by rw [← hW2, ← hW1]; rfl, by rw [← hW2, ← hW1, setRow_size]; show _ ≤ (World.setRow _ _ _).heap.size; rw [setRow_size]; show w.heap.size ≤ (w.drew.alloc _).heap.size; have := (Below.refl w.drew.heap.size w.drew).alloc (Nat.le_refl _) (.cells zs 27); exact this.size, fun k hk hne => by
        have hkG : k ≠ G := by omega
        rw [setRow_other _ _ _ _ hkG, ← hW2]
        show (World.setRow _ _ _).heap[k]? = _
        rw [setRow_other _ _ _ _ hkG]
        exact hblk k (by omega)⟩, Or.inr ⟨G, rfl, by omega⟩⟩
  obtain ⟨W3, hW3⟩ : ∃ W3, W2.drew.setRow G c2.toArray = W3 := ⟨_, rfl⟩
  rw [hW3] at hcp2 FIN
  have S1 := fun W => sliceFrom_run (P := Try.prog) rowQ g 0 n n i (by omega) (by omega) W
  rw [Nat.zero_add] at S1
  have S2 : ∀ W, (Instr.sliceAt 25 (.slice (some ⟨g, 0, none⟩) n n) none (some (.int .i64 (i : Int))) none).run Try.prog W = .ok (.slice (some ⟨g, 0, none⟩) i n) W := fun W => sliceTo_run rowQ _ _ _ _ (by omega) W (fun h => by cases h)
  have S3 : ∀ W, (Instr.sliceAt 25 (.slice (some ⟨G, 0, none⟩) (n + 1) gc) (some (.int .i64 ((i : Int) + 1))) none none).run Try.prog W = .ok (.slice (some ⟨G, (i + 1) * 5, none⟩) (n - i) (gc - (i + 1))) W := fun W => by
    rw [show ((i : Int) + 1) = ((i + 1 : Nat) : Int) from by omega]
    have := sliceFrom_run (P := Try.prog) rowQ G 0 (n + 1) gc (i + 1) (by omega) (by omega) W
    rwa [Nat.zero_add, show n + 1 - (i + 1) = n - i from by omega] at this
  have S4 : ∀ W, (Instr.sliceAt 25 (.slice (some ⟨G, 0, none⟩) (n + 1) gc) (some (.int .i64 (i : Int))) none none).run Try.prog W = .ok (.slice (some ⟨G, i * 5, none⟩) (n + 1 - i) (gc - i)) W := fun W => by
    have := sliceFrom_run (P := Try.prog) rowQ G 0 (n + 1) gc i (by omega) (by omega) W
    rwa [Nat.zero_add] at this
  have hq2 : ((i : Int) == (n : Int)) = false := beq_eq_false_iff_ne.2 (by omega)
  have hq3 : decide ((n : Int) < (n : Int) + 1) = true := decide_eq_true (by omega)
  have mixed : Try.prog.follows .mixedOrders = true := by kernel_rfl
  have hw1 : IntKind.i64.wrap ((i : Int) + 1) = (i : Int) + 1 := by rw [IntKind.wrap_i64]; omega
  rw [hG] at hap
  clear ho hl hv hlx gw vw hgc hg1 hg2 holds hzs hzc hz1 hz2 hc1 hc2 k1 k2 k3 hW1 hbG hblk hc hW2 hbG2 hW3 h1 h2 h3 h4 h5 hG
  go_enter Try.func51, Try.ntmps51
  go_wp2_with (at_builtin; refine Lib.wpList_append_run _ rfl _ _ _ _ rfl _ _ rfl rfl _ _ hap ?_)
  go_wp2_with (at_builtin; refine wpList_copyN _ rfl _ _ 25 25 rfl _ _ rfl rfl (hcp1 _ _) ?_)
  go_region_law_o (refine step_copyN _ rfl _ _ 25 25 rfl _ _ (by simp [Act.eval, Act.put]) (by simp [Act.eval, Act.put]) (hcp2 _ _ _) ?_)
  go_wp2
  go_ret
  exact FIN.out
end Go.Proofs.Ytbifnmlhbepadaa
