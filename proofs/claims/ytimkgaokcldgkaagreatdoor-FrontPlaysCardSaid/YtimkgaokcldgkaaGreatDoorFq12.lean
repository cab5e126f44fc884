/- Part of a chain: QuIns, QuPut, QuRem, QuFn, QuPsh. -/
import Derived.Test.YtimkgaokcldgkaaGreatDoorFq11
import Derived.Laws.Externs
import Derived.Lib.SliceRun
import Derived.Shelf.RegionOpenPlain
/- Package queue: the library's Insert of one request: in place; at the end; into a new row. -/
namespace Go.Proofs.YtimkgaokcldgkaaGreatDoor
open Go Go.RowKit
set_option linter.unusedVariables false
set_option linter.unusedSimpArgs false
set_option maxRecDepth 10000

theorem sliceFrom_run {P : Program} {T E : TypeId} {size bytes : Nat} (hT : RowTy P T E size bytes) (g off len cap lo : Nat) (hlo : lo ≤ len) (hc : lo < cap) (w : World) :
    (Instr.sliceAt T (.slice (some ⟨g, off, none⟩) len cap) (some (.int .i64 lo)) none none).run P w = .ok (.slice (some ⟨g, off + lo * size, none⟩) (len - lo) (cap - lo)) w := by
  obtain ⟨i, z, hi, hz, hs, hb, hzs⟩ := hT.parts
  have h : ¬ cap = lo := by omega
  simp [Instr.sliceAt, Instr.slice, run_underlying hT.und, Instr.sliceBounds, Instr.sliceBound, asIntOf, sizeOf, typeInfo, hi, hs, hlo, h, go_sem, Go.WideShapes.add_plain]
theorem box_shape {w : World} {b : Nat} {cs : Array Value} {t : TypeId} (h : w.heap[b]? = some (.cells cs t (0, 0))) : w.shape? b = some (t, cs.size) := by
  unfold World.shape?
  rw [h]
/-- What an insertion gives. -/
def InsP (B : Nat) (a : Option Addr) (rs : List Rq) (r : Rq) (i n : Nat) (w : World) (e : Ending) (w' : World) : Prop :=
  ∃ a' cap', e = .returned (.slice a' (n + 1) cap') ∧ Own w' B 35 5 a' (n + 1) cap' (rqC (rs.take i ++ r :: rs.drop i)) ∧ w.grownBy w' (a.map (·.block)) ∧ (a' = a ∨ ∃ g, a' = some ⟨g, 0, none⟩ ∧ w.heap.size ≤ g)
theorem rqC_mid (rs : List Rq) (r : Rq) (i : Nat) : rqC (rs.take i ++ r :: rs.drop i) = (rqC rs).take (i * 5) ++ rqL r ++ (rqC rs).drop (i * 5) := by
  rw [rqC_app, rqC_cons, rqC_take, rqC_drop, List.append_assoc]
theorem grown_setRow2 {w : World} {g : Nat} (c1 c2 : Array Value) : w.grownBy ((w.drew.setRow g c1).setRow g c2) (some g) :=
  ⟨rfl, rfl, rfl, by rw [setRow_size, setRow_size]; exact Nat.le_refl _, fun k hk hne => by
    have hkg : k ≠ g := fun e => hne (by rw [e])
    rw [setRow_other _ _ _ _ hkg, setRow_other _ _ _ _ hkg]
    rfl⟩
set_option maxHeartbeats 4000000 in
theorem ins_shift {w : World} {B g n cap vb i : Nat} {rs : List Rq} {r : Rq} (ho : Own w B 35 5 (some ⟨g, 0, none⟩) n cap (rqC rs)) (hl : rs.length = n) (hi : i < n) (hroom : n + 1 ≤ cap) (hv : Box w vb (rqA r) 35) (hne : vb ≠ g) :
    Calls Tryz.prog 91 #[.slice (some ⟨g, 0, none⟩) n cap, .int .i64 i, .slice (some ⟨vb, 0, none⟩) 1 1] w (InsP B (some ⟨g, 0, none⟩) rs r i n w) := by
  obtain ⟨cur, hg, hsz, htk, hnc, hm, hB⟩ := ho.block
  have hlx := rqC_len rs
  rw [hl] at hlx
  have hm2 : cap ≤ 9223372036854775807 := hm
  obtain ⟨c1, hc1⟩ : ∃ c1, c1 = cur.toList.take ((i + 1) * 5) ++ (rqC rs).drop (i * 5) ++ cur.toList.drop ((i + 1) * 5 + ((rqC rs).drop (i * 5)).length) := ⟨_, rfl⟩
  obtain ⟨c2, hc2⟩ : ∃ c2, c2 = c1.take (i * 5) ++ rqL r ++ c1.drop (i * 5 + (rqL r).length) := ⟨_, rfl⟩
  obtain ⟨k1, k2, k3⟩ := ins_cells (size := 5) (n := n) (i := i) (cap := cap) (by simpa using hsz) htk (by omega) hroom (rqL_len r) c1 c2 hc1 hc2
  have hov : ∀ lb cb, (callFunc 110 #[.slice (some ⟨vb, 0, none⟩) 1 1, .slice (some ⟨g, (i + 1) * 5, none⟩) lb cb]).run Tryz.prog w = .ok (.value (.bool false)) w := fun lb cb => by
    rw [run_callFunc_extern Tryz.func110 (by kernel_rfl) (by kernel_rfl) (by kernel_rfl) (e := Extern.SlicesOverlaps.overlaps #[38, 38] #[4]) (by kernel_rfl),
      Lib.run_overlaps_apart w 38 4 35 Tryz.underlying38 5 (fun w => by kernel_rfl) ⟨vb, 0, none⟩ ⟨g, (i + 1) * 5, none⟩ 1 1 lb cb hne _ _ _ _ (box_shape hv) (box_shape hg) (by rw [hsz]; omega) (hv.free 0) (hv.free _)]
    rfl
  have hld : ((rqC rs).drop (i * 5)).length = (n - i) * 5 := by rw [List.length_drop, hlx]; omega
  have hcp1 : ∀ ty dc sc, (Builtin.copy_ #[38, 38] ty #[.slice (some ⟨g, (i + 1) * 5, none⟩) (n - i) dc, .slice (some ⟨g, i * 5, none⟩) (n + 1 - i) sc]).run Tryz.prog w.drew = .ok (goInt ((n - i : Nat) : Int)) (w.drew.setRow g c1.toArray) := fun ty dc sc => by
    rw [hc1]
    refine run_copy_rowN w.drew _ _ ty 35 5 g ((i + 1) * 5) (n - i) dc ⟨g, i * 5, none⟩ (n + 1 - i) sc cur 35 ((rqC rs).drop (i * 5)) (n - i) rowQu.und rowQu.sz hg (by simp only [Nat.min_def]; split <;> omega) hld (fun j v hj => ?_) (by rw [hld, hsz]; omega) (fun v hv => rqC_one rs v (List.mem_of_mem_drop hv))
    rw [Addr.add_lit]
    rw [List.getElem?_drop] at hj
    exact ho.cell hj
  obtain ⟨W1, hW1⟩ : ∃ W1, W1 = w.drew.setRow g c1.toArray := ⟨_, rfl⟩
  have hg1 : W1.heap[g]? = some (.cells c1.toArray 35 (0, 0)) := by rw [hW1]; exact setRow_heap _ _ cur _ _ _ hg
  have hcp2 : ∀ ty dc, (Builtin.copy_ #[38, 38] ty #[.slice (some ⟨g, i * 5, none⟩) (n + 1 - i) dc, .slice (some ⟨vb, 0, none⟩) 1 1]).run Tryz.prog W1 = .ok (goInt 1) (W1.setRow g c2.toArray) := fun ty dc => by
    rw [hc2]
    have := run_copy_rowN (P := Tryz.prog) W1 38 38 ty 35 5 g (i * 5) (n + 1 - i) dc ⟨vb, 0, none⟩ 1 1 c1.toArray 35 (rqL r) 1 rowQu.und rowQu.sz hg1 (by simp only [Nat.min_def]; split <;> omega) (rqL_len r) (fun j v hj => by
      rw [Addr.add_lit, Nat.zero_add, hW1, cell_setRow_other _ _ _ _ hne]
      have h := hv.cell j
      have e : (rqA r)[j]? = some v := by rw [← Array.getElem?_toList]; exact hj
      exact h.trans e) (by rw [rqL_len]; simp only [List.size_toArray, k1]; omega) (rqL_one r)
    simpa using this
  have FIN : Hid (InsP B (some ⟨g, 0, none⟩) rs r i n w (.returned (.slice (some ⟨g, 0, none⟩) (n + 1) cap)) (W1.setRow g c2.toArray)) := Lib.hid
    ⟨_, _, rfl, by rw [rqC_mid]; exact Own.of_block (setRow_heap _ _ _ _ _ _ hg1) (by simpa using k2) (by simpa using k3) hroom hm hB, by rw [hW1]; exact grown_setRow2 _ _, Or.inl rfl⟩
  rw [← hW1] at hcp1
  have S1 := fun W => sliceFrom_run (P := Tryz.prog) rowQu g 0 n cap i (by omega) (by omega) W
  have S2 : ∀ W, (Instr.sliceAt 38 (.slice (some ⟨g, 0, none⟩) n cap) none (some (.int .i64 ((n : Int) + 1))) none).run Tryz.prog W = .ok (.slice (some ⟨g, 0, none⟩) (n + 1) cap) W := fun W => by
    rw [show ((n : Int) + 1) = ((n + 1 : Nat) : Int) from by omega]
    exact sliceTo_run rowQu _ _ _ _ hroom W (fun h => by cases h)
  have S3 : ∀ W, (Instr.sliceAt 38 (.slice (some ⟨g, 0, none⟩) (n + 1) cap) (some (.int .i64 ((i : Int) + 1))) none none).run Tryz.prog W = .ok (.slice (some ⟨g, (i + 1) * 5, none⟩) (n - i) (cap - (i + 1))) W := fun W => by
    rw [show ((i : Int) + 1) = ((i + 1 : Nat) : Int) from by omega]
    have := sliceFrom_run (P := Tryz.prog) rowQu g 0 (n + 1) cap (i + 1) (by omega) (by omega) W
    rwa [Nat.zero_add, show n + 1 - (i + 1) = n - i from by omega] at this
  have S4 : ∀ W, (Instr.sliceAt 38 (.slice (some ⟨g, 0, none⟩) (n + 1) cap) (some (.int .i64 (i : Int))) none none).run Tryz.prog W = .ok (.slice (some ⟨g, i * 5, none⟩) (n + 1 - i) (cap - i)) W := fun W => by
    have := sliceFrom_run (P := Tryz.prog) rowQu g 0 (n + 1) cap i (by omega) (by omega) W
    rwa [Nat.zero_add] at this
  rw [Nat.zero_add] at S1
  have hz2 : ((i : Int) == (n : Int)) = false := beq_eq_false_iff_ne.2 (by omega)
  have hz3 : decide ((cap : Int) < (n : Int) + 1) = false := decide_eq_false (by omega)
  have mixed : Tryz.prog.follows .mixedOrders = true := by kernel_rfl
  have hw1 : IntKind.i64.wrap ((i : Int) + 1) = (i : Int) + 1 := by rw [IntKind.wrap_i64]; omega
  clear ho hl hv hne hg hsz htk hB hlx hc1 hc2 k1 k2 k3 hld hW1 hg1 hm
  go_enter Tryz.func91, Tryz.ntmps91
  go_wp2_with (simp only [hov])
  go_region_law_o (refine step_copyN _ rfl _ _ 38 38 rfl _ _ (by simp [Act.eval, Act.put]) (by simp [Act.eval, Act.put]) (hcp1 _ _ _) ?_)
  go_wp2_with (at_builtin; refine wpList_copyN _ rfl _ _ 38 38 rfl _ _ rfl rfl (hcp2 _ _) ?_)
  go_ret
  exact FIN.out
theorem sliceEnd_run {P : Program} {T E : TypeId} {size bytes : Nat} (hT : RowTy P T E size bytes) {w0 : World} {B n cap : Nat} {a : Option Addr} {xs : List Value} (ho : Own w0 B E size a n cap xs) :
    ∃ v, ∀ w, (Instr.sliceAt T (.slice a n cap) (some (.int .i64 n)) none none).run P w = .ok v w := by
  obtain ⟨i, z, hi, hz, hs, hb, hzs⟩ := hT.parts
  rcases ho.form with ⟨rfl, rfl, rfl⟩ | ⟨g, rfl, _⟩
  · refine ⟨.slice none 0 0, fun w => ?_⟩
    simp [Instr.sliceAt, Instr.slice, run_underlying hT.und, Instr.sliceBounds, Instr.sliceBound, asIntOf, sizeOf, typeInfo, hi, go_sem]
  · by_cases h : cap = n
    · subst h
      refine ⟨.slice (some ⟨g, 0, none⟩) 0 0, fun w => ?_⟩
      simp [Instr.sliceAt, Instr.slice, run_underlying hT.und, Instr.sliceBounds, Instr.sliceBound, asIntOf, sizeOf, typeInfo, hi, go_sem]
    · have := ho.cap_le
      exact ⟨_, fun w => sliceFrom_run hT g 0 n cap n (Nat.le_refl _) (by omega) w⟩
set_option maxHeartbeats 4000000 in
theorem ins_end {w : World} {B n cap vb : Nat} {a : Option Addr} {rs : List Rq} {r : Rq} (ho : Own w B 35 5 a n cap (rqC rs)) (hl : rs.length = n) (hn2 : n ≤ 999999) (hB : B ≤ w.heap.size) (hv : Box w vb (rqA r) 35) :
    Calls Tryz.prog 91 #[.slice a n cap, .int .i64 n, .slice (some ⟨vb, 0, none⟩) 1 1] w (InsP B a rs r n n w) := by
  obtain ⟨v1, S1⟩ := sliceEnd_run (P := Tryz.prog) rowQu ho
  have HO := Lib.hid ho
  have HV : Hid (∀ j u, (rqL r)[j]? = some u → w.cell? ⟨vb, 0 + j, none⟩ = some u) := Lib.hid (fun j u hj => by
    rw [Nat.zero_add]
    have e : (rqA r)[j]? = some u := by rw [← Array.getElem?_toList]; exact hj
    exact (hv.cell j).trans e)
  have FIN : Hid (∀ g cap' w', Own w' B 35 5 (some ⟨g, 0, none⟩) (n + 1) cap' (rqC rs ++ rqL r) → w.grownBy w' (a.map (·.block)) → Below B w w' → (a.map (·.block) = some g ∨ g = w.heap.size) → InsP B a rs r n n w (.returned (.slice (some ⟨g, 0, none⟩) (n + 1) cap')) w') := Lib.hid (fun g cap' w' q1 q2 q3 q4 => by
    refine ⟨_, _, rfl, ?_, q2, ?_⟩
    · rw [List.take_of_length_le (by omega), List.drop_of_length_le (by omega), rqC_app, rqC_cons, rqC_nil, List.append_nil]
      exact q1
    · rcases q4 with q4 | q4
      · left
        rcases ho.form with ⟨rfl, _, _⟩ | ⟨g', rfl, _⟩
        · cases q4
        · injection q4 with q4
          rw [← q4]
      · exact Or.inr ⟨g, rfl, by omega⟩)
  have hz2 : ((n : Int) == (n : Int)) = true := by simp
  clear ho hv hl
  go_enter Tryz.func91, Tryz.ntmps91
  go_wp2_with (at_builtin; refine wpList_appR rowQu rfl _ _ rfl B a n cap (rqC rs) rfl HO.out vb 0 1 1 (rqL r) rfl (by omega) rfl HV.out (rqL_one r) (by omega) (by decide) hB (n + 1) rfl (rqC rs ++ rqL r) rfl ?_; rintro g' cap2 w3 q1 q2 q3 q4; have Q := FIN.out g' cap2 w3 q1 q2 q3 q4; clear q1 q2 q3 q4 FIN HO HV)
  go_ret
  exact Q
set_option maxHeartbeats 4000000 in
theorem ins_more {w : World} {B g n vb i : Nat} {rs : List Rq} {r : Rq} (ho : Own w B 35 5 (some ⟨g, 0, none⟩) n n (rqC rs)) (hl : rs.length = n) (hn2 : n ≤ 999999) (hi : i < n) (hB : B ≤ w.heap.size) (hv : Box w vb (rqA r) 35) :
    Calls Tryz.prog 91 #[.slice (some ⟨g, 0, none⟩) n n, .int .i64 i, .slice (some ⟨vb, 0, none⟩) 1 1] w (InsP B (some ⟨g, 0, none⟩) rs r i n w) := by
  obtain ⟨i0, z, h1, h2, h3, h4, h5⟩ := rowQu.parts
  have hlx := rqC_len rs
  rw [hl] at hlx
  have gw := ho.lt.2
  have vw := hv.lt
  obtain ⟨gc, hgc⟩ : ∃ gc, grownCap w (n + 1) n 35 = gc := ⟨_, rfl⟩
  have hg1 : n + 1 ≤ gc := by rw [← hgc]; exact grownCap_ge _ _ _ _
  have hg2 : gc ≤ maxLen := by rw [← hgc]; exact grownCap_le_maxLen _ _ _ _ (by unfold maxLen; omega)
  have holds : (Builtin.firstCells i0.size i (.slice (some ⟨g, 0, none⟩) i n)).run Tryz.prog w.drew = .ok ((rqC rs).take (i * 5)).toArray w.drew := by
    have hll : ((rqC rs).take (i * 5)).length = i * 5 := by rw [List.length_take, hlx]; omega
    have := run_loadCells_list (P := Tryz.prog) w.drew ⟨g, 0, none⟩ ((rqC rs).take (i * 5)) (fun j v hj => by
      rw [Addr.add_lit, Nat.zero_add]
      rw [List.getElem?_take] at hj
      split at hj
      · exact ho.cell hj
      · cases hj)
    rw [hll] at this
    rw [h3]
    exact this
  have hap := Lib.run_append_grow_zeros (P := Tryz.prog) w 38 3 38 35 i0 z .i64 .i64 rowQu.und Tryz.underlying3 h1 h2 (some ⟨g, 0, none⟩) i n _ holds (n + 1 - i) (by omega) (by rw [h3]; omega) (by omega) (by omega) (by rw [h4]; omega)
    (by rw [h4]; exact Nat.le_trans (Nat.mul_le_mul_right _ (nextslicecap_le (by omega))) (by omega))
  rw [show i + (n + 1 - i) = n + 1 from by omega, hgc, show (((n + 1 - i : Nat)) : Int) = (n : Int) + 1 - (i : Int) from by omega] at hap
  obtain ⟨zs, hzs⟩ : ∃ zs, (((rqC rs).take (i * 5)).toArray ++ Builtin.zeroCells z.cells (n + 1 - i) ++ Builtin.zeroCells z.cells (gc - (n + 1))) = zs := ⟨_, rfl⟩
  rw [hzs] at hap
  have hzc : ∀ k, (Builtin.zeroCells z.cells k).size = k * 5 := fun k => by unfold Builtin.zeroCells; simp [h5]
  have hz1 : zs.toList.length = gc * 5 := by
    rw [← hzs]
    simp only [Array.length_toList, Array.size_append, List.size_toArray, List.length_take, hzc, hlx]
    omega
  have hz2 : zs.toList.take (i * 5) = (rqC rs).take (i * 5) := by
    rw [← hzs, Array.toList_append, Array.toList_append, List.append_assoc, List.take_append_of_le_length (by simp only [List.length_take, hlx]; omega), List.take_of_length_le (by simp only [List.length_take]; omega)]
  obtain ⟨c1, hc1⟩ : ∃ c1, c1 = zs.toList.take (i * 5) ++ rqL r ++ zs.toList.drop (i * 5 + (rqL r).length) := ⟨_, rfl⟩
  obtain ⟨c2, hc2⟩ : ∃ c2, c2 = c1.take ((i + 1) * 5) ++ (rqC rs).drop (i * 5) ++ c1.drop ((i + 1) * 5 + ((rqC rs).drop (i * 5)).length) := ⟨_, rfl⟩
  obtain ⟨k1, k2, k3⟩ := ins_grow (size := 5) (n := n) (i := i) (cap := gc) hz1 hlx hz2 (by omega) hg1 (rqL_len r) c1 c2 hc1 hc2
  obtain ⟨W1, hW1⟩ : ∃ W1, w.drew.alloc (.cells zs 35) = W1 := ⟨_, rfl⟩
  rw [hW1] at hap
  obtain ⟨G, hG⟩ : ∃ G, w.heap.size = G := ⟨_, rfl⟩
  have hbG : W1.heap[G]? = some (.cells zs 35 (0, 0)) := by rw [← hW1, ← hG]; exact heap_alloc_new w.drew _
  have hblk : ∀ k, k < G → W1.heap[k]? = w.heap[k]? := fun k hk => by rw [← hW1]; exact Below.heap_alloc w.drew _ k (by rw [← hG] at hk; exact hk)
  have hc : ∀ k j, k < G → W1.cell? ⟨k, j, none⟩ = w.cell? ⟨k, j, none⟩ := fun k j hk => cell_blk (hblk k hk) j
  have hcp1 : ∀ ty dc, (Builtin.copy_ #[38, 38] ty #[.slice (some ⟨G, i * 5, none⟩) (n + 1 - i) dc, .slice (some ⟨vb, 0, none⟩) 1 1]).run Tryz.prog W1 = .ok (goInt 1) (W1.setRow G c1.toArray) := fun ty dc => by
    rw [hc1]
    have := run_copy_rowN (P := Tryz.prog) W1 38 38 ty 35 5 G (i * 5) (n + 1 - i) dc ⟨vb, 0, none⟩ 1 1 zs 35 (rqL r) 1 rowQu.und rowQu.sz hbG (by simp only [Nat.min_def]; split <;> omega) (rqL_len r) (fun j v hj => by
      rw [Addr.add_lit, Nat.zero_add, hc vb j (by omega)]
      have h := hv.cell j
      have e : (rqA r)[j]? = some v := by rw [← Array.getElem?_toList]; exact hj
      exact h.trans e) (by rw [rqL_len, ← Array.length_toList, hz1]; omega) (rqL_one r)
    simpa using this
  obtain ⟨W2, hW2⟩ : ∃ W2, W1.setRow G c1.toArray = W2 := ⟨_, rfl⟩
  rw [hW2] at hcp1
  have hbG2 : W2.heap[G]? = some (.cells c1.toArray 35 (0, 0)) := by rw [← hW2]; exact setRow_heap _ _ _ _ _ _ hbG
  have hcp2 : ∀ ty dc sc, (Builtin.copy_ #[38, 38] ty #[.slice (some ⟨G, (i + 1) * 5, none⟩) (n - i) dc, .slice (some ⟨g, i * 5, none⟩) (n - i) sc]).run Tryz.prog W2.drew = .ok (goInt ((n - i : Nat) : Int)) (W2.drew.setRow G c2.toArray) := fun ty dc sc => by
    have hld : ((rqC rs).drop (i * 5)).length = (n - i) * 5 := by rw [List.length_drop, hlx]; omega
    rw [hc2]
    refine run_copy_rowN W2.drew _ _ ty 35 5 G ((i + 1) * 5) (n - i) dc ⟨g, i * 5, none⟩ (n - i) sc c1.toArray 35 ((rqC rs).drop (i * 5)) (n - i) rowQu.und rowQu.sz hbG2 (by simp only [Nat.min_def]; split <;> omega) hld (fun j v hj => ?_) (by rw [hld]; simp only [List.size_toArray, k1]; omega) (fun v hv => rqC_one rs v (List.mem_of_mem_drop hv))
    rw [Addr.add_lit]
    rw [List.getElem?_drop] at hj
    have e1 : W2.drew.cell? ⟨g, i * 5 + j, none⟩ = W1.cell? ⟨g, i * 5 + j, none⟩ := by rw [← hW2]; exact cell_setRow_other _ _ _ _ (by show g ≠ G; omega)
    rw [e1, hc g _ (by omega)]
    exact ho.cell hj
  have FIN : Hid (InsP B (some ⟨g, 0, none⟩) rs r i n w (.returned (.slice (some ⟨G, 0, none⟩) (n + 1) gc)) (W2.drew.setRow G c2.toArray)) := Lib.hid
    ⟨_, _, rfl, by rw [rqC_mid]; exact Own.of_block (setRow_heap _ _ _ _ _ _ hbG2) (by simpa using k2) (by simpa using k3) hg1 hg2 (by omega),
      ⟨by rw [← hW2, ← hW1]; rfl, by rw [← hW2, ← hW1]; rfl, by rw [← hW2, ← hW1]; rfl, by rw [← hW2, ← hW1, setRow_size]; show _ ≤ (World.setRow _ _ _).heap.size; rw [setRow_size]; show w.heap.size ≤ (w.drew.alloc _).heap.size; have := (Below.refl w.drew.heap.size w.drew).alloc (Nat.le_refl _) (.cells zs 35); exact this.size, fun k hk hne => by
        have hkG : k ≠ G := by omega
        rw [setRow_other _ _ _ _ hkG, ← hW2]
        show (World.setRow _ _ _).heap[k]? = _
        rw [setRow_other _ _ _ _ hkG]
        exact hblk k (by omega)⟩, Or.inr ⟨G, rfl, by omega⟩⟩
  obtain ⟨W3, hW3⟩ : ∃ W3, W2.drew.setRow G c2.toArray = W3 := ⟨_, rfl⟩
  rw [hW3] at hcp2 FIN
  have S1 := fun W => sliceFrom_run (P := Tryz.prog) rowQu g 0 n n i (by omega) (by omega) W
  rw [Nat.zero_add] at S1
  have S2 : ∀ W, (Instr.sliceAt 38 (.slice (some ⟨g, 0, none⟩) n n) none (some (.int .i64 (i : Int))) none).run Tryz.prog W = .ok (.slice (some ⟨g, 0, none⟩) i n) W := fun W => sliceTo_run rowQu _ _ _ _ (by omega) W (fun h => by cases h)
  have S3 : ∀ W, (Instr.sliceAt 38 (.slice (some ⟨G, 0, none⟩) (n + 1) gc) (some (.int .i64 ((i : Int) + 1))) none none).run Tryz.prog W = .ok (.slice (some ⟨G, (i + 1) * 5, none⟩) (n - i) (gc - (i + 1))) W := fun W => by
    rw [show ((i : Int) + 1) = ((i + 1 : Nat) : Int) from by omega]
    have := sliceFrom_run (P := Tryz.prog) rowQu G 0 (n + 1) gc (i + 1) (by omega) (by omega) W
    rwa [Nat.zero_add, show n + 1 - (i + 1) = n - i from by omega] at this
  have S4 : ∀ W, (Instr.sliceAt 38 (.slice (some ⟨G, 0, none⟩) (n + 1) gc) (some (.int .i64 (i : Int))) none none).run Tryz.prog W = .ok (.slice (some ⟨G, i * 5, none⟩) (n + 1 - i) (gc - i)) W := fun W => by
    have := sliceFrom_run (P := Tryz.prog) rowQu G 0 (n + 1) gc i (by omega) (by omega) W
    rwa [Nat.zero_add] at this
  have hq2 : ((i : Int) == (n : Int)) = false := beq_eq_false_iff_ne.2 (by omega)
  have hq3 : decide ((n : Int) < (n : Int) + 1) = true := decide_eq_true (by omega)
  have mixed : Tryz.prog.follows .mixedOrders = true := by kernel_rfl
  have hw1 : IntKind.i64.wrap ((i : Int) + 1) = (i : Int) + 1 := by rw [IntKind.wrap_i64]; omega
  rw [hG] at hap
  clear ho hl hv hlx gw vw hgc hg1 hg2 holds hzs hzc hz1 hz2 hc1 hc2 k1 k2 k3 hW1 hbG hblk hc hW2 hbG2 hW3 h1 h2 h3 h4 h5 hG
  go_enter Tryz.func91, Tryz.ntmps91
  go_wp2_with (at_builtin; refine Lib.wpList_append_run _ rfl _ _ _ _ rfl _ _ rfl rfl _ _ hap ?_)
  go_wp2_with (at_builtin; refine wpList_copyN _ rfl _ _ 38 38 rfl _ _ rfl rfl (hcp1 _ _) ?_)
  go_region_law_o (refine step_copyN _ rfl _ _ 38 38 rfl _ _ (by simp [Act.eval, Act.put]) (by simp [Act.eval, Act.put]) (hcp2 _ _ _) ?_)
  go_wp2
  go_ret
  exact FIN.out
end Go.Proofs.YtimkgaokcldgkaaGreatDoor
/- Package queue: a request comes in. -/
namespace Go.Proofs.YtimkgaokcldgkaaGreatDoor
open Go Go.RowKit
set_option linter.unusedVariables false
set_option linter.unusedSimpArgs false
set_option maxRecDepth 10000

theorem qown_block5 {w : World} {B : Nat} {E : TypeId} {size n cap : Nat} {a : Option Addr} {xs : List Value} (h : Own w B E size a n cap xs) {k : Nat} (hk : a.map (·.block) = some k) : a = some ⟨k, 0, none⟩ := by
  rcases h.form with ⟨rfl, _, _⟩ | ⟨g, rfl, _⟩
  · cases hk
  · injection hk with hk
    exact congrArg some (congrArg (fun g => (⟨g, 0, none⟩ : Addr)) hk)
theorem qins_at {w : World} {B n cap vb i : Nat} {a : Option Addr} {rs : List Rq} {r : Rq} (ho : Own w B 35 5 a n cap (rqC rs)) (hl : rs.length = n) (hn2 : n ≤ 999999) (hi : i ≤ n) (hB : B ≤ w.heap.size) (hv : Box w vb (rqA r) 35) (hne : ∀ g, a = some ⟨g, 0, none⟩ → vb ≠ g) :
    Calls Tryz.prog 91 #[.slice a n cap, .int .i64 i, .slice (some ⟨vb, 0, none⟩) 1 1] w (InsP B a rs r i n w) := by
  rcases Nat.lt_or_eq_of_le hi with hlt | rfl
  · obtain ⟨g, rfl, _⟩ := ho.some_ (by omega)
    have hc := ho.cap_le
    by_cases h : n + 1 ≤ cap
    · exact ins_shift ho hl hlt h hv (hne g rfl)
    · obtain rfl : n = cap := by omega
      exact ins_more ho hl hn2 hlt hB hv
  · exact ins_end ho hl hn2 hB hv
set_option maxHeartbeats 4000000 in
theorem insert_at {w : World} {B q cap : Nat} {a : Option Addr} {rs : List Rq} {most : Int} (h : Qm w B q a cap rs most) (hs : Srt rs) (hn2 : rs.length ≤ 999999) (hB : B ≤ w.heap.size) (r : Rq) :
    Calls Tryz.prog 73 #[.pointer (some ⟨q, 0, none⟩), .agg (rqA r), .func (.func 74) #[] #[]] w fun e w' => e = .returned (.tuple #[]) ∧ ∃ a' cap', Qm w' B q a' cap' (insQ rs r) most ∧ TurnQ q a w a' w' := by
  obtain ⟨n, hn⟩ : ∃ n, rs.length = n := ⟨_, rfl⟩
  have hpn := posQ_le rs r
  have INS := Lib.hid (fun (W : World) (vb : Nat) (hQ : Own W B 35 5 a n cap (rqC rs)) (hb : B ≤ W.heap.size) (hv : Box W vb (rqA r) 35) hne => qins_at hQ hn (by omega) (i := posQ rs r) (by omega) hb hv hne)
  have BIN := Lib.hid (fun (W : World) hr => bin_at rs r hs n hn (by omega) a cap W hr)
  have INSQ : Hid (rs.take (posQ rs r) ++ r :: rs.drop (posQ rs r) = insQ rs r) := Lib.hid rfl
  have HLEN : Hid ((insQ rs r).length = n + 1) := Lib.hid (by rw [insQ_len, hn])
  obtain ⟨pz, hpz⟩ : ∃ p, posQ rs r = p := ⟨_, rfl⟩
  rw [hpz] at INS BIN INSQ hpn
  rw [hn] at hpn hn2
  have QM := Lib.hid h
  have hne0 : Hid (∀ g, a = some ⟨g, 0, none⟩ → g ≠ q ∧ g < w.heap.size) := Lib.hid (fun g hg => by
    subst hg
    exact ⟨own_not_box5 h.own h.box (by decide), h.own.lt.2⟩)
  have BX := Lib.hid (Box.new w (rqA r) 35)
  have BB := Lib.hid ((Below.refl w.heap.size w).alloc (Nat.le_refl _) (.cells (rqA r) 35))
  have Q1 := Lib.hid (h.later BB.out)
  have HN := Lib.hid hn
  clear hs hpz h hn
  obtain ⟨ra, hra⟩ : ∃ ra, rqA r = ra := ⟨_, rfl⟩
  rw [hra] at BIN INS BX BB Q1 ⊢
  have HRA : Hid (ra = #[.int .i64 r.id, .string r.host, .string r.path, .int .i64 r.prio, .int .i64 r.til]) := Lib.hid (by rw [← hra]; rfl)
  have HRR := Lib.hid hra
  clear hra
  obtain ⟨ri, rh, rp, rr, rt⟩ := r
  obtain rfl := HRA.out
  clear HRA
  go_enter Tryz.func73, Tryz.ntmps73
  go_upto_region 1 with fail
  obtain ⟨w1, hw1⟩ : ∃ W, w.alloc (.cells #[.int .i64 ri, .string rh, .string rp, .int .i64 rr, .int .i64 rt] 35) = W := ⟨_, rfl⟩
  rw [hw1] at BX BB Q1
  rw [hw1]
  clear hw1
  have y0 := Q1.out.box.cell 0
  rw [HN.out] at y0
  have t0 := BX.out.cell 0
  have t1 := BX.out.cell 1
  have t2 := BX.out.cell 2
  have t3 := BX.out.cell 3
  have t4 := BX.out.cell 4
  have lq := Q1.out.box.lt
  have lT := BX.out.lt
  have BN : Hid (∀ W, Below w1.heap.size w1 W → Calls Tryz.prog 90 #[.slice a n cap, .agg #[.int .i64 ri, .string rh, .string rp, .int .i64 rr, .int .i64 rt], .func (.func 74) #[] #[]] W fun e w' => (∃ b : Bool, e = .returned (.tuple #[.int .i64 (pz : Int), .bool b])) ∧ Below W.heap.size W w') := Lib.hid (fun W hW => BIN.out W (Q1.out.later hW).own.rdQ)
  have hqw : q < w.heap.size := QM.out.box.lt
  obtain ⟨T, hT⟩ : ∃ T, w.heap.size = T := ⟨_, rfl⟩
  rw [hT] at BX t0 t1 t2 t3 t4 lT hqw ⊢
  clear BIN
  refine wp_region_last 11 (fun w' => w'.heap[q]? = w1.heap[q]? ∧ w'.heap[T]? = w1.heap[T]?) (by kernel_rfl) (⟨rfl, rfl⟩) (fun hHeld hClosed => ?_)
  refine wtk (i := 0) (v := ?_) rfl hClosed (Or.inl ⟨by rfl, ?_⟩) hHeld (fun hClosed => ?_)
  rotate_left
  · intro wv hSw; go_simp; all_goals (with_reducible rfl)
  (try simp only [List.getElem_toArray, List.getElem_cons_zero, put_at, List.set])
  refine wtk (i := 1) (v := ?_) rfl hClosed (Or.inl ⟨by rfl, ?_⟩) hHeld (fun hClosed => ?_)
  rotate_left
  · intro wv hSw; go_simp; all_goals (with_reducible rfl)
  (try simp only [List.getElem_toArray, List.getElem_cons_succ, List.getElem_cons_zero, put_at, List.set])
  refine wtk (i := 2) (v := ?_) rfl hClosed (Or.inl ⟨by rfl, ?_⟩) hHeld (fun hClosed => ?_)
  rotate_left
  · intro wv hSw; go_simp; all_goals (with_reducible rfl)
  (try simp only [List.getElem_toArray, List.getElem_cons_succ, List.getElem_cons_zero, put_at, List.set])
  refine wtk (i := 3) (v := ?_) rfl hClosed (Or.inl ⟨by rfl, ?_⟩) hHeld (fun hClosed => ?_)
  rotate_left
  · intro wv hSw; have e9 := cell_blk hSw.1 0; rw [y0] at e9; have e0 := cell_blk hSw.2 0; rw [t0] at e0; have e1 := cell_blk hSw.2 1; rw [t1] at e1; have e2 := cell_blk hSw.2 2; rw [t2] at e2; have e3 := cell_blk hSw.2 3; rw [t3] at e3; have e4 := cell_blk hSw.2 4; rw [t4] at e4; go_simp; all_goals (with_reducible rfl)
  (try simp only [List.getElem_toArray, List.getElem_cons_succ, List.getElem_cons_zero, put_at, List.set])
  refine wtk (i := 4) (v := ?_) rfl hClosed (Or.inl ⟨by rfl, ?_⟩) hHeld (fun hClosed => ?_)
  rotate_left
  · intro wv hSw; have e9 := cell_blk hSw.1 0; rw [y0] at e9; have e0 := cell_blk hSw.2 0; rw [t0] at e0; have e1 := cell_blk hSw.2 1; rw [t1] at e1; have e2 := cell_blk hSw.2 2; rw [t2] at e2; have e3 := cell_blk hSw.2 3; rw [t3] at e3; have e4 := cell_blk hSw.2 4; rw [t4] at e4; go_simp; all_goals (with_reducible rfl)
  (try simp only [List.getElem_toArray, List.getElem_cons_succ, List.getElem_cons_zero, put_at, List.set])
  refine wtk (i := 5) (v := ?_) rfl hClosed (Or.inl ⟨by rfl, ?_⟩) hHeld (fun hClosed => ?_)
  rotate_left
  · intro wv hSw; go_simp; all_goals (with_reducible rfl)
  (try simp only [List.getElem_toArray, List.getElem_cons_succ, List.getElem_cons_zero, put_at, List.set])
  refine wpAnyL_one (i := 6) rfl (by kernel_rfl) (by kernel_rfl) hClosed (fun KK hK => ?_)
  go_simp
  refine (BN.out _ (Below.refl _ _).drew).mono ?_
  rintro e wq ⟨⟨b, rfl⟩, hbq⟩
  go_wp2_with fail
  refine hK.out _ _ ?_ (fun hClosed hHeld => ?_)
  · exact ⟨(hbq.block q lq).trans hHeld.1, (hbq.block T lT).trans hHeld.2⟩
  clear hK KK
  (first | simp only [List.getElem_toArray, List.getElem_cons_succ, List.getElem_cons_zero, put_at, List.set] | (try simp only [put_at, List.set]))
  have BQ := Lib.hid ((Below.refl w1.heap.size w1).drew.trans hbq)
  clear hbq BN
  refine wtk (i := 7) (v := ?_) rfl hClosed (Or.inl ⟨by rfl, ?_⟩) hHeld (fun hClosed => ?_)
  rotate_left
  · intro wv hSw; go_simp; all_goals (with_reducible rfl)
  (try simp only [List.getElem_toArray, List.getElem_cons_succ, List.getElem_cons_zero, put_at, List.set])
  refine wtk (i := 8) (v := ?_) rfl hClosed (Or.inl ⟨by rfl, ?_⟩) hHeld (fun hClosed => ?_)
  rotate_left
  · intro wv hSw; go_simp; all_goals (with_reducible rfl)
  (try simp only [List.getElem_toArray, List.getElem_cons_succ, List.getElem_cons_zero, put_at, List.set])
  refine wtk (i := 9) (v := ?_) rfl hClosed (Or.inl ⟨by rfl, ?_⟩) hHeld (fun hClosed => ?_)
  rotate_left
  · intro wv hSw; go_simp; all_goals (with_reducible rfl)
  (try simp only [List.getElem_toArray, List.getElem_cons_succ, List.getElem_cons_zero, put_at, List.set])
  refine wtk (i := 10) (v := ?_) rfl hClosed (Or.inl ⟨by rfl, ?_⟩) hHeld (fun hClosed => ?_)
  rotate_left
  · intro wv hSw; go_simp; all_goals (with_reducible rfl)
  (try simp only [List.getElem_toArray, List.getElem_cons_succ, List.getElem_cons_zero, put_at, List.set])
  refine wpAnyL_last rfl (by kernel_rfl) (by kernel_rfl) (fun KK hK => ?_)
  go_simp
  refine hK.out _ _ ?_
  (try simp only [put_at, List.set])
  obtain ⟨wy, hwy⟩ : ∃ W, wq = W := ⟨_, rfl⟩
  rw [hwy] at BQ ⊢
  clear hwy hHeld hClosed
  have QY := Lib.hid (Q1.out.later BQ.out)
  have BY := Lib.hid (BX.out.later BQ.out)
  have WY := Lib.hid (BB.out.trans (BQ.out.mono BB.out.size))
  clear y0 t0 t1 t2 t3 t4 lq lT Q1 BX BB BQ QM
  have y0 := QY.out.box.cell 0
  rw [HN.out] at y0
  have yf := QY.out.box.free 0
  have t0 := BY.out.cell 0
  have t1 := BY.out.cell 1
  have t2 := BY.out.cell 2
  have t3 := BY.out.cell 3
  have t4 := BY.out.cell 4
  have lq2 := QY.out.box.lt
  have lT2 := BY.out.lt
  have hqa : some q ≠ a.map (·.block) := fun e => by
    have h1 := qown_block5 QY.out.own e.symm
    exact (hne0.out q h1).1 rfl
  have hTa : some T ≠ a.map (·.block) := fun e => by
    have h1 := qown_block5 QY.out.own e.symm
    have := (hne0.out T h1).2
    omega
  have WZ : Hid (Below wy.heap.size wy ((wy.alloc (.cells #[.int .i64 ri, .string rh, .string rp, .int .i64 rr, .int .i64 rt] 35)).drew)) := Lib.hid (((Below.refl _ _).alloc (Nat.le_refl _) _).drew)
  have IN : Hid (Calls Tryz.prog 91 #[.slice a n cap, .int .i64 (pz : Int), .slice (some ⟨wy.heap.size, 0, none⟩) 1 1] ((wy.alloc (.cells #[.int .i64 ri, .string rh, .string rp, .int .i64 rr, .int .i64 rt] 35)).drew) (InsP B a rs ⟨ri, rh, rp, rr, rt⟩ pz n ((wy.alloc (.cells #[.int .i64 ri, .string rh, .string rp, .int .i64 rr, .int .i64 rt] 35)).drew))) := Lib.hid (INS.out _ wy.heap.size (by have := (QY.out.later WZ.out).own; rw [HN.out] at this; exact this) (Nat.le_trans hB (Nat.le_trans WY.out.size WZ.out.size)) (Box.new wy _ _) (fun g hg e => by have := (hne0.out g hg).2; have := WY.out.size; omega))
  have LEAF : Hid (∀ a' cap' w3, Own w3 B 35 5 a' (n + 1) cap' (rqC (rs.take pz ++ ⟨ri, rh, rp, rr, rt⟩ :: rs.drop pz)) → ((wy.alloc (.cells #[.int .i64 ri, .string rh, .string rp, .int .i64 rr, .int .i64 rt] 35)).drew).grownBy w3 (a.map (·.block)) → (a' = a ∨ ∃ g, a' = some ⟨g, 0, none⟩ ∧ ((wy.alloc (.cells #[.int .i64 ri, .string rh, .string rp, .int .i64 rr, .int .i64 rt] 35)).drew).heap.size ≤ g) →
      Hid (Qm (w3.setCell ⟨q, 0, none⟩ (.slice a' (n + 1) cap')) B q a' cap' (insQ rs ⟨ri, rh, rp, rr, rt⟩) most ∧ TurnQ q a w a' (w3.setCell ⟨q, 0, none⟩ (.slice a' (n + 1) cap')))) := Lib.hid (fun a' cap' w3 q1 q2 q3 => Lib.hid (by
    have kq : Box w3 q #[.slice a n cap, .int .i64 most] 117 := by
      have hb := (QY.out.later WZ.out).box
      rw [HN.out] at hb
      exact (q2.block q (by have := WZ.out.size; omega) hqa).trans hb
    have ng : ∀ g, a' = some ⟨g, 0, none⟩ → g ≠ q := fun g hg => by subst hg; exact own_not_box5 q1 kq (by decide)
    have wz := WZ.out.size
    refine ⟨⟨?_, ?_, QY.out.qB⟩, ?_, fun k hk => ?_⟩
    · rw [HLEN.out]
      exact kq.set 0 _
    · rw [HLEN.out, ← INSQ.out]
      exact q1.other (fun g hg => ng g hg) _
    · have o1 : Only (MineQ q a) w wy := Only.of_below _ WY.out
      have o2 : Only (MineQ q a) w ((wy.alloc (.cells #[.int .i64 ri, .string rh, .string rp, .int .i64 rr, .int .i64 rt] 35)).drew) := o1.later WZ.out
      have o3 : Only (MineQ q a) w w3 := o2.trans (Only.of_grown (R := fun k => some k = a.map (·.block)) q2 (fun k hk => hk.symm)) (fun x hx => Or.inl (Or.inr (qown_block5 QY.out.own hx.symm)))
      exact o3.setCell (Or.inl (Or.inl rfl)) _
    · rcases q3 with rfl | ⟨g, rfl, hg⟩
      · exact Or.inl hk
      · injection hk with hk
        injection hk with hk
        subst hk
        right
        have := WY.out.size
        omega))
  clear INS QY BY WY WZ
  go_upto_region 2 with fail
  refine wp_region_last 11 (fun w' => w'.heap[q]? = wy.heap[q]? ∧ w'.heap[T]? = wy.heap[T]?) (by kernel_rfl) (⟨rfl, rfl⟩) (fun hHeld hClosed => ?_)
  refine wtk (i := 0) (v := ?_) rfl hClosed (Or.inl ⟨by rfl, ?_⟩) hHeld (fun hClosed => ?_)
  rotate_left
  · intro wv hSw; go_simp; all_goals (with_reducible rfl)
  (try simp only [List.getElem_toArray, List.getElem_cons_zero, put_at, List.set])
  refine wtk (i := 1) (v := ?_) rfl hClosed (Or.inl ⟨by rfl, ?_⟩) hHeld (fun hClosed => ?_)
  rotate_left
  · intro wv hSw; go_simp; all_goals (with_reducible rfl)
  (try simp only [List.getElem_toArray, List.getElem_cons_succ, List.getElem_cons_zero, put_at, List.set])
  refine wtk (i := 2) (v := ?_) rfl hClosed (Or.inl ⟨by rfl, ?_⟩) hHeld (fun hClosed => ?_)
  rotate_left
  · intro wv hSw; go_simp; all_goals (with_reducible rfl)
  (try simp only [List.getElem_toArray, List.getElem_cons_succ, List.getElem_cons_zero, put_at, List.set])
  refine wtk (i := 3) (v := ?_) rfl hClosed (Or.inl ⟨by rfl, ?_⟩) hHeld (fun hClosed => ?_)
  rotate_left
  · intro wv hSw; go_simp; all_goals (with_reducible rfl)
  (try simp only [List.getElem_toArray, List.getElem_cons_succ, List.getElem_cons_zero, put_at, List.set])
  refine wtk (i := 4) (v := ?_) rfl hClosed (Or.inl ⟨by rfl, ?_⟩) hHeld (fun hClosed => ?_)
  rotate_left
  · intro wv hSw; have e9 := cell_blk hSw.1 0; rw [y0] at e9; have e0 := cell_blk hSw.2 0; rw [t0] at e0; have e1 := cell_blk hSw.2 1; rw [t1] at e1; have e2 := cell_blk hSw.2 2; rw [t2] at e2; have e3 := cell_blk hSw.2 3; rw [t3] at e3; have e4 := cell_blk hSw.2 4; rw [t4] at e4; go_simp; all_goals (with_reducible rfl)
  (try simp only [List.getElem_toArray, List.getElem_cons_succ, List.getElem_cons_zero, put_at, List.set])
  refine wtk (i := 5) (v := ?_) rfl hClosed (Or.inl ⟨by rfl, ?_⟩) hHeld (fun hClosed => ?_)
  rotate_left
  · intro wv hSw; go_simp; all_goals (with_reducible rfl)
  (try simp only [List.getElem_toArray, List.getElem_cons_succ, List.getElem_cons_zero, put_at, List.set])
  refine wtk (i := 6) (v := ?_) rfl hClosed (Or.inl ⟨by rfl, ?_⟩) hHeld (fun hClosed => ?_)
  rotate_left
  · intro wv hSw; have e9 := cell_blk hSw.1 0; rw [y0] at e9; have e0 := cell_blk hSw.2 0; rw [t0] at e0; have e1 := cell_blk hSw.2 1; rw [t1] at e1; have e2 := cell_blk hSw.2 2; rw [t2] at e2; have e3 := cell_blk hSw.2 3; rw [t3] at e3; have e4 := cell_blk hSw.2 4; rw [t4] at e4; go_simp; all_goals (with_reducible rfl)
  (try simp only [List.getElem_toArray, List.getElem_cons_succ, List.getElem_cons_zero, put_at, List.set])
  refine wpAnyL_one (i := 7) rfl (by kernel_rfl) (by kernel_rfl) hClosed (fun KK hK => ?_)
  go_simp
  refine hK.out _ _ ?_ (fun hClosed hHeld => ?_)
  · exact ⟨(Below.heap_alloc _ _ q (by first | exact lq2 | simpa using lq2)).trans hHeld.1, (Below.heap_alloc _ _ T (by first | exact lT2 | simpa using lT2)).trans hHeld.2⟩
  clear hK KK
  (first | simp only [List.getElem_toArray, List.getElem_cons_succ, List.getElem_cons_zero, put_at, List.set] | (try simp only [put_at, List.set]))
  refine wpAnyL_one (i := 8) rfl (by kernel_rfl) (by kernel_rfl) hClosed (fun KK hK => ?_)
  go_simp
  refine IN.out.mono ?_
  rintro e w3 ⟨a', cap', rfl, o3, g3, ha3⟩
  go_wp2_with fail
  refine hK.out _ _ ?_ (fun hClosed hHeld => ?_)
  · exact ⟨(g3.block q (by simp; omega) hqa).trans (Below.heap_alloc wy _ q lq2), (g3.block T (by simp; omega) hTa).trans (Below.heap_alloc wy _ T lT2)⟩
  clear hK KK
  (first | simp only [List.getElem_toArray, List.getElem_cons_succ, List.getElem_cons_zero, put_at, List.set] | (try simp only [put_at, List.set]))
  have NX := LEAF.out a' cap' w3 o3 g3 ha3
  clear o3 g3 ha3 IN LEAF
  refine wtk (i := 9) (v := ?_) rfl hClosed (Or.inl ⟨by rfl, ?_⟩) hHeld (fun hClosed => ?_)
  rotate_left
  · intro wv hSw; go_simp; all_goals (with_reducible rfl)
  (try simp only [List.getElem_toArray, List.getElem_cons_succ, List.getElem_cons_zero, put_at, List.set])
  refine wtk (i := 10) (v := ?_) rfl hClosed (Or.inl ⟨by rfl, ?_⟩) hHeld (fun hClosed => ?_)
  rotate_left
  · intro wv hSw; go_simp; all_goals (with_reducible rfl)
  (try simp only [List.getElem_toArray, List.getElem_cons_succ, List.getElem_cons_zero, put_at, List.set])
  refine wpAnyL_last rfl (by kernel_rfl) (by kernel_rfl) (fun KK hK => ?_)
  have c3 := (cell_blk hHeld.1 0).trans y0
  have f3 := (frz_blk hHeld.1 0).trans yf
  go_simp
  refine hK.out _ _ ?_
  (try simp only [put_at, List.set])
  obtain ⟨w4, hw4⟩ : ∃ W, w3.setCell ⟨q, 0, none⟩ (.slice a' (n + 1) cap') = W := ⟨_, rfl⟩
  rw [hw4] at NX
  rw [hw4]
  clear hw4 c3 f3
  go_wp2
  exact bodyPost_end (v := .tuple #[]) (by simp [results, Tryz.results73, go_sem]) rfl ⟨rfl, a', cap', NX.out⟩
end Go.Proofs.YtimkgaokcldgkaaGreatDoor
/- Package queue: requests go. -/
namespace Go.Proofs.YtimkgaokcldgkaaGreatDoor
open Go Go.RowKit
set_option linter.unusedVariables false
set_option linter.unusedSimpArgs false
set_option maxRecDepth 10000

structure RmS (w wr : World) (rs : List Rq) (p : Rq → Bool) (i : Nat) (ak : Option Addr) (ck : Nat) (ks : List Rq) (ag : Option Addr) (cg : Nat) (gs : List Rq) : Prop where
  ok : Own wr w.heap.size 35 5 ak ks.length ck (rqC ks)
  og : Own wr w.heap.size 35 5 ag gs.length cg (rqC gs)
  ne : ∀ k, ak = some ⟨k, 0, none⟩ → ag ≠ some ⟨k, 0, none⟩
  bel : Below w.heap.size w wr
  ks : ks = (rs.take i).filter fun x => !p x
  gs : gs = (rs.take i).filter p
theorem qown_lt {w : World} {B size n cap k : Nat} {E : TypeId} {a : Option Addr} {xs : List Value} (h : Own w B E size a n cap xs) (hk : a = some ⟨k, 0, none⟩) : k < w.heap.size ∧ B ≤ k := by
  subst hk
  exact ⟨h.lt.2, h.lt.1⟩
theorem RmS.gone {w wr : World} {rs : List Rq} {p : Rq → Bool} {i : Nat} {ak : Option Addr} {ck : Nat} {ks : List Rq} {ag : Option Addr} {cg : Nat} {gs : List Rq} {x : Rq} (h : RmS w wr rs p i ak ck ks ag cg gs) (hx : rs[i]? = some x) (hp : p x = true)
    {w2 w3 : World} (hb : Below wr.heap.size wr w2) {g c2 : Nat} (q1 : Own w3 w.heap.size 35 5 (some ⟨g, 0, none⟩) (gs.length + 1) c2 (rqC (gs ++ [x]))) (q2 : w2.grownBy w3 (ag.map (·.block))) (q3 : Below w.heap.size w2 w3) (q4 : ag.map (·.block) = some g ∨ g = w2.heap.size + 1) :
    RmS w w3 rs p (i + 1) ak ck ks (some ⟨g, 0, none⟩) c2 (gs ++ [x]) := by
  have o2 := h.ok.later hb
  have e := List.take_add_one (l := rs) (i := i)
  rw [hx] at e
  refine ⟨o2.blocks fun k hk => q2.block k (qown_lt o2 hk).1 (fun e => h.ne k hk (qown_block5 h.og e.symm)), by rw [List.length_append]; exact q1, fun k hk hg => ?_, (h.bel.trans (hb.mono h.bel.size)).trans q3, ?_, ?_⟩
  · injection hg with hg
    injection hg with hg
    subst hg
    rcases q4 with q4 | q4
    · exact h.ne g hk (qown_block5 h.og q4)
    · have := (qown_lt o2 hk).1
      omega
  · rw [e, List.filter_append, ← h.ks]
    simp [hp]
  · rw [e, List.filter_append, ← h.gs]
    simp [hp]
theorem RmS.kept {w wr : World} {rs : List Rq} {p : Rq → Bool} {i : Nat} {ak : Option Addr} {ck : Nat} {ks : List Rq} {ag : Option Addr} {cg : Nat} {gs : List Rq} {x : Rq} (h : RmS w wr rs p i ak ck ks ag cg gs) (hx : rs[i]? = some x) (hp : p x = false)
    {w2 w3 : World} (hb : Below wr.heap.size wr w2) {g c2 : Nat} (q1 : Own w3 w.heap.size 35 5 (some ⟨g, 0, none⟩) (ks.length + 1) c2 (rqC (ks ++ [x]))) (q2 : w2.grownBy w3 (ak.map (·.block))) (q3 : Below w.heap.size w2 w3) (q4 : ak.map (·.block) = some g ∨ g = w2.heap.size + 1) :
    RmS w w3 rs p (i + 1) (some ⟨g, 0, none⟩) c2 (ks ++ [x]) ag cg gs := by
  have o2 := h.og.later hb
  have e := List.take_add_one (l := rs) (i := i)
  rw [hx] at e
  refine ⟨by rw [List.length_append]; exact q1, o2.blocks fun k hk => q2.block k (qown_lt o2 hk).1 (fun e => h.ne k (qown_block5 h.ok e.symm) hk), fun k hk hg => ?_, (h.bel.trans (hb.mono h.bel.size)).trans q3, ?_, ?_⟩
  · injection hk with hk
    injection hk with hk
    subst hk
    rcases q4 with q4 | q4
    · exact h.ne g (qown_block5 h.ok q4) hg
    · have := (qown_lt o2 hg).1
      omega
  · rw [e, List.filter_append, ← h.ks]
    simp [hp]
  · rw [e, List.filter_append, ← h.gs]
    simp [hp]
/-- What remove gives. -/
def RemP (B q : Nat) (a : Option Addr) (rs : List Rq) (p : Rq → Bool) (most : Int) (w : World) (e : Ending) (w' : World) : Prop :=
  ∃ a' cap' ag cg, e = .returned (.slice ag (rs.filter p).length cg) ∧ Qm w' B q a' cap' (rs.filter fun x => !p x) most ∧ TurnQ q a w a' w' ∧ Own w' w.heap.size 35 5 ag (rs.filter p).length cg (rqC (rs.filter p)) ∧ ∀ k, a' = some ⟨k, 0, none⟩ → ag ≠ some ⟨k, 0, none⟩
set_option maxHeartbeats 4000000 in
theorem remove_at {w : World} {B q cap : Nat} {a : Option Addr} {rs : List Rq} {most : Int} (h : Qm w B q a cap rs most) (n : Nat) (hn : rs.length = n) (hn2 : n ≤ 999999) (hB : B ≤ w.heap.size) (g : Nat) (lb : Array Value) (p : Rq → Bool)
    (eg : ∀ args w, (callFunc g args).run Tryz.prog w = .ok (.enter g args) w) (hm : MeantQ w g lb p) :
    Calls Tryz.prog 54 #[.pointer (some ⟨q, 0, none⟩), .func (.func g) #[] lb] w (RemP B q a rs p most w) := by
  have QM := Lib.hid h
  have HM := Lib.hid hm
  have HN := Lib.hid hn
  have RD := Lib.hid h.own.rdQ
  have c0 := h.box.cell 0
  rw [hn] at c0
  have lq := h.box.lt
  clear h hm hn
  go_enter Tryz.func54, Tryz.ntmps54
  go_wp2_with fail
  clear c0
  go_loopw [5, 6, 8, 14] (fun vk vg _ vi wr => ∃ (i : Nat) (ak : Option Addr) (ck : Nat) (ks : List Rq) (ag : Option Addr) (cg : Nat) (gs : List Rq), i ≤ n ∧ vk = .slice ak ks.length ck ∧ vg = .slice ag gs.length cg ∧ vi = .int .i64 (i : Int) ∧ ks.length ≤ i ∧ gs.length ≤ i ∧ w.heap.size ≤ wr.heap.size ∧ Hid (RmS w wr rs p i ak ck ks ag cg gs)) (fun _ _ _ vi _ => n - (intOf vi).toNat)
  case atStart => exact ⟨0, none, 0, [], none, 0, [], by omega, rfl, rfl, rfl, by simp, by simp, Nat.le_refl _, Lib.hid ⟨Own.nil _ _ _ _, Own.nil _ _ _ _, (fun k hk => by cases hk), Below.refl _ _, rfl, rfl⟩⟩
  case round =>
    obtain ⟨i, ak, ck, ks, ag, cg, gs, hi, rfl, rfl, rfl, lk, lg, szw, HS⟩ := hrel
    by_cases hlt : i < n
    · have hkd : decide ((i : Int) < (n : Int)) = true := decide_eq_true (by omega)
      obtain ⟨x, hx⟩ : ∃ x, rs[i]? = some x := ⟨_, List.getElem?_eq_getElem (by rw [HN.out]; exact hlt)⟩
      obtain ⟨gq, hga, cl⟩ := (RD.out.later HS.out.bel) i x hx
      subst hga
      have m0 := cl.c0
      have m1 := cl.c1
      have m2 := cl.c2
      have m3 := cl.c3
      have m4 := cl.c4
      have HX := Lib.hid hx
      have hx0 : (0 : Int) ≤ (i : Int) := by omega
      have hx1 : (i : Int) < (n : Int) := by omega
      obtain ⟨wo, rfl⟩ : ∃ W, W = wr := ⟨_, rfl⟩
      have BX := Lib.hid (Box.new wo (rqA x) 35)
      have WX := Lib.hid ((Below.refl wo.heap.size wo).alloc (Nat.le_refl _) (.cells (rqA x) 35))
      have MX := Lib.hid (fun W (hW : Below w.heap.size w W) => HM.out x W hW)
      obtain ⟨b, hb⟩ : ∃ b, p x = b := ⟨_, rfl⟩
      rw [hb] at MX
      have HB := Lib.hid hb
      have HZG : Hid (rqC gs ++ (rqA x).toList = rqC (gs ++ [x])) := Lib.hid (by rw [rqC_app, rqC_cons, rqC_nil, List.append_nil]; rfl)
      have HZK : Hid (rqC ks ++ (rqA x).toList = rqC (ks ++ [x])) := Lib.hid (by rw [rqC_app, rqC_cons, rqC_nil, List.append_nil]; rfl)
      have H1 := Lib.hid (rqA_one x)
      have HA5 : Hid ((rqA x).size = 5) := Lib.hid rfl
      obtain ⟨ra, hra⟩ : ∃ ra, rqA x = ra := ⟨_, rfl⟩
      rw [hra] at BX WX MX HZG HZK H1 HA5
      have HRA : Hid (ra = #[.int .i64 x.id, .string x.host, .string x.path, .int .i64 x.prio, .int .i64 x.til]) := Lib.hid (by rw [← hra]; rfl)
      clear hra cl hx hb
      obtain ⟨xi, xh, xp, xr, xt⟩ := x
      obtain rfl := HRA.out
      clear HRA
      dsimp only at m0 m1 m2 m3 m4
      go_upto_region 5 with fail
      obtain ⟨w1, hw1⟩ : ∃ W, wo.alloc (.cells #[.int .i64 xi, .string xh, .string xp, .int .i64 xr, .int .i64 xt] 35) = W := ⟨_, rfl⟩
      rw [hw1] at BX WX
      rw [hw1]
      clear hw1 m0 m1 m2 m3 m4
      have b0 := BX.out.cell 0
      have b1 := BX.out.cell 1
      have b2 := BX.out.cell 2
      have b3 := BX.out.cell 3
      have b4 := BX.out.cell 4
      have lX := BX.out.lt
      have MY := Lib.hid (MX.out w1 (HS.out.bel.trans (WX.out.mono szw)))
      clear MX
      go_wp2_with fail
      refine MY.out.mono ?_
      rintro e w2 ⟨rfl, hb2⟩
      have W2 := Lib.hid (WX.out.trans (hb2.mono WX.out.size))
      have BX2 := BX.out.later hb2
      have d0 := BX2.cell 0
      have d1 := BX2.cell 1
      have d2 := BX2.cell 2
      have d3 := BX2.cell 3
      have d4 := BX2.cell 4
      have lX2 := BX2.lt
      have sz2 : w.heap.size ≤ w2.heap.size := Nat.le_trans szw W2.out.size
      clear b0 b1 b2 b3 b4 BX BX2 hb2 MY WX
      cases b with
      | true =>
        have OA := Lib.hid (HS.out.og.later W2.out)
        go_wp2_with (at_builtin; refine wpList_app1 rowQu rfl _ _ rfl w.heap.size ag gs.length cg (rqC gs) rfl OA.out #[.int .i64 xi, .string xh, .string xp, .int .i64 xr, .int .i64 xt] rfl HA5.out H1.out (by omega) (by decide) sz2 (gs.length + 1) rfl (rqC (gs ++ [⟨xi, xh, xp, xr, xt⟩])) HZG.out ?_; rintro g' cap2 w3 q1 q2 q3 q4)
        have NX := Lib.hid (HS.out.gone HX.out HB.out W2.out q1 q2 q3 q4)
        have sz3 := Nat.le_trans sz2 q3.size
        clear q1 q2 q3 q4 d0 d1 d2 d3 d4 HS OA
        go_wp2
        go_roundw
        case rel => exact ⟨i + 1, ak, ck, ks, some ⟨g', 0, none⟩, cap2, gs ++ [⟨xi, xh, xp, xr, xt⟩], by omega, rfl, by rw [List.length_append]; rfl, by simp, by omega, by simp; omega, sz3, NX⟩
        case measure =>
          simp only [intOf]
          omega
      | false =>
        have OA := Lib.hid (HS.out.ok.later W2.out)
        go_wp2_with (at_builtin; refine wpList_app1 rowQu rfl _ _ rfl w.heap.size ak ks.length ck (rqC ks) rfl OA.out #[.int .i64 xi, .string xh, .string xp, .int .i64 xr, .int .i64 xt] rfl HA5.out H1.out (by omega) (by decide) sz2 (ks.length + 1) rfl (rqC (ks ++ [⟨xi, xh, xp, xr, xt⟩])) HZK.out ?_; rintro g' cap2 w3 q1 q2 q3 q4)
        have NX := Lib.hid (HS.out.kept HX.out HB.out W2.out q1 q2 q3 q4)
        have sz3 := Nat.le_trans sz2 q3.size
        clear q1 q2 q3 q4 d0 d1 d2 d3 d4 HS OA
        go_wp2
        go_roundw
        case rel => exact ⟨i + 1, some ⟨g', 0, none⟩, cap2, ks ++ [⟨xi, xh, xp, xr, xt⟩], ag, cg, gs, by omega, by rw [List.length_append]; rfl, rfl, by simp, by simp; omega, by omega, sz3, NX⟩
        case measure =>
          simp only [intOf]
          omega
    · have hkd : decide ((i : Int) < (n : Int)) = false := decide_eq_false (by omega)
      obtain rfl : i = n := by omega
      have hks := HS.out.ks
      have hgs := HS.out.gs
      rw [List.take_of_length_le (by rw [HN.out]; exact Nat.le_refl _)] at hks hgs
      have QL := QM.out.later HS.out.bel
      have y0 := QL.box.cell 0
      have f0 := QL.box.free 0
      have lq2 := QL.box.lt
      have FIN : Hid (RemP B q a rs p most w (.returned (.slice ag gs.length cg)) (wr.setCell ⟨q, 0, none⟩ (.slice ak ks.length ck))) := Lib.hid (by
        unfold RemP
        rw [← hks, ← hgs]
        have ngk : ∀ k, ak = some ⟨k, 0, none⟩ → k ≠ q := fun k hk => by have := HS.out.ok; rw [hk] at this; exact own_not_box5 this QL.box (by decide)
        have ngg : ∀ k, ag = some ⟨k, 0, none⟩ → k ≠ q := fun k hk => by have := HS.out.og; rw [hk] at this; exact own_not_box5 this QL.box (by decide)
        exact ⟨ak, ck, ag, cg, rfl, ⟨QL.box.set 0 _, (HS.out.ok.other ngk _).mono hB, QL.qB⟩, ⟨(Only.of_below _ HS.out.bel).setCell (Or.inl (Or.inl rfl)) _, fun k hk => Or.inr (qown_lt HS.out.ok hk).2⟩, HS.out.og.other ngg _, HS.out.ne⟩)
      clear hks hgs QL HS QM HM RD HN
      go_wp2
      go_ret
      exact FIN.out
end Go.Proofs.YtimkgaokcldgkaaGreatDoor
/- Package queue: the functions of a queue: New, First, Drop, Late, Len; all of them where there is no queue. -/
namespace Go.Proofs.YtimkgaokcldgkaaGreatDoor
open Go Go.RowKit
set_option linter.unusedVariables false
set_option linter.unusedSimpArgs false
set_option maxRecDepth 10000

theorem len_nil (w : World) : Calls Tryz.prog 32 #[.pointer none] w fun e w' => e = .returned (.int .i64 0) ∧ w' = w := by
  go_enter Tryz.func32, Tryz.ntmps32
  go_wp2
  go_ret
  exact ⟨rfl, rfl⟩
theorem all_nil (w : World) : Calls Tryz.prog 36 #[.pointer none] w fun e w' => e = .returned (.slice none 0 0) ∧ w' = w := by
  go_enter Tryz.func36, Tryz.ntmps36
  go_wp2
  go_ret
  exact ⟨rfl, rfl⟩
theorem new_at (most : Int) (w : World) (B : Nat) (hB : B ≤ w.heap.size) : Calls Tryz.prog 52 #[.int .i64 most] w fun e w' => e = .returned (.pointer (some ⟨w.heap.size, 0, none⟩)) ∧ Qm w' B w.heap.size none 0 [] most ∧ Below w.heap.size w w' := by
  have FIN : Hid (Qm (w.alloc (.cells #[.slice none 0 0, .int .i64 most] 117)) B w.heap.size none 0 [] most ∧ Below w.heap.size w (w.alloc (.cells #[.slice none 0 0, .int .i64 most] 117))) := Lib.hid
    ⟨⟨Box.new _ _ _, Own.nil _ _ _ _, hB⟩, (Below.refl _ _).alloc (Nat.le_refl _) _⟩
  go_enter Tryz.func52, Tryz.ntmps52
  go_wp2
  go_ret
  exact ⟨rfl, FIN.out⟩
theorem len_at {w : World} {B q cap : Nat} {a : Option Addr} {rs : List Rq} {most : Int} (h : Qm w B q a cap rs most) :
    Calls Tryz.prog 32 #[.pointer (some ⟨q, 0, none⟩)] w fun e w' => e = .returned (.int .i64 (rs.length : Int)) ∧ w' = w := by
  have CN := Lib.hid (count_at h)
  have lq := h.box.lt
  clear h
  go_enter Tryz.func32, Tryz.ntmps32
  go_wp2_with fail
  refine CN.out.mono ?_
  rintro e w1 ⟨rfl, rfl⟩
  go_wp2
  go_ret
  exact ⟨rfl, rfl⟩
/-- A request that is none. -/
def rq0 : Rq := ⟨0, ⟨#[]⟩, ⟨#[]⟩, 0, 0⟩
def headQ (rs : List Rq) : Rq := rs.headD rq0
theorem first_nil (w : World) : Calls Tryz.prog 33 #[.pointer none] w fun e w' => e = .returned (.tuple #[.agg (rqA rq0), .bool false]) ∧ Below w.heap.size w w' := by
  have LN := Lib.hid (fun W => len_nil W)
  have RB := Lib.hid (Box.new w #[.int .i64 0, .string ⟨#[]⟩, .string ⟨#[]⟩, .int .i64 0, .int .i64 0] 35)
  have B0 := Lib.hid ((Below.refl w.heap.size w).alloc (Nat.le_refl _) (.cells #[.int .i64 0, .string ⟨#[]⟩, .string ⟨#[]⟩, .int .i64 0, .int .i64 0] 35))
  unfold rqA rq0
  dsimp only
  go_enter Tryz.func33, Tryz.ntmps33
  go_upto_region 1 with fail
  obtain ⟨wz, hwz⟩ : ∃ W, w.alloc (.cells #[.int .i64 0, .string ⟨#[]⟩, .string ⟨#[]⟩, .int .i64 0, .int .i64 0] 35) = W := ⟨_, rfl⟩
  rw [hwz] at RB B0
  rw [hwz]
  clear hwz
  go_wp2_with fail
  refine (LN.out _).mono ?_
  rintro e w1 ⟨rfl, rfl⟩
  have RZ := RB
  have BZ := B0
  have s0 := RZ.out.cell 0
  have t0 := RZ.out.free 0
  have s1 := RZ.out.cell 1
  have t1 := RZ.out.free 1
  have s2 := RZ.out.cell 2
  have t2 := RZ.out.free 2
  have s3 := RZ.out.cell 3
  have t3 := RZ.out.free 3
  have s4 := RZ.out.cell 4
  have t4 := RZ.out.free 4
  have lS := RZ.out.lt
  go_wp2
  exact bodyPost_ret (v := .tuple #[.agg #[.int .i64 0, .string ⟨#[]⟩, .string ⟨#[]⟩, .int .i64 0, .int .i64 0], .bool false]) (by simp [results, Tryz.results33, go_sem, s0, s1, s2, s3, s4]) rfl ⟨rfl, (((((BZ.out.setCell (p := ⟨w.heap.size, 0, none⟩) (Nat.le_refl _) _).setCell (p := ⟨w.heap.size, 1, none⟩) (Nat.le_refl _) _).setCell (p := ⟨w.heap.size, 2, none⟩) (Nat.le_refl _) _).setCell (p := ⟨w.heap.size, 3, none⟩) (Nat.le_refl _) _).setCell (p := ⟨w.heap.size, 4, none⟩) (Nat.le_refl _) _)⟩
set_option maxHeartbeats 2000000 in
theorem first_at {w : World} {B q cap : Nat} {a : Option Addr} {rs : List Rq} {most : Int} (h : Qm w B q a cap rs most) :
    Calls Tryz.prog 33 #[.pointer (some ⟨q, 0, none⟩)] w fun e w' => e = .returned (.tuple #[.agg (rqA (headQ rs)), .bool (!rs.isEmpty)]) ∧ Below w.heap.size w w' := by
  have RB := Lib.hid (Box.new w #[.int .i64 0, .string ⟨#[]⟩, .string ⟨#[]⟩, .int .i64 0, .int .i64 0] 35)
  have B0 := Lib.hid ((Below.refl w.heap.size w).alloc (Nat.le_refl _) (.cells #[.int .i64 0, .string ⟨#[]⟩, .string ⟨#[]⟩, .int .i64 0, .int .i64 0] 35))
  have Q1 := Lib.hid (h.later B0.out)
  have hqw := h.box.lt
  cases rs with
  | nil =>
    show Calls _ _ _ _ fun e w' => e = .returned (.tuple #[.agg #[.int .i64 0, .string ⟨#[]⟩, .string ⟨#[]⟩, .int .i64 0, .int .i64 0], .bool false]) ∧ Below w.heap.size w w'
    clear h
    go_enter Tryz.func33, Tryz.ntmps33
    go_upto_region 1 with fail
    obtain ⟨wz, hwz⟩ : ∃ W, w.alloc (.cells #[.int .i64 0, .string ⟨#[]⟩, .string ⟨#[]⟩, .int .i64 0, .int .i64 0] 35) = W := ⟨_, rfl⟩
    rw [hwz] at RB B0 Q1
    rw [hwz]
    clear hwz
    have LN := Lib.hid (len_at Q1.out)
    go_wp2_with fail
    refine LN.out.mono ?_
    rintro e w1 ⟨rfl, rfl⟩
    have RZ := RB
    have BZ := B0
    have s0 := RZ.out.cell 0
    have t0 := RZ.out.free 0
    have s1 := RZ.out.cell 1
    have t1 := RZ.out.free 1
    have s2 := RZ.out.cell 2
    have t2 := RZ.out.free 2
    have s3 := RZ.out.cell 3
    have t3 := RZ.out.free 3
    have s4 := RZ.out.cell 4
    have t4 := RZ.out.free 4
    have lS := RZ.out.lt
    go_wp2
    exact bodyPost_ret (v := .tuple #[.agg #[.int .i64 0, .string ⟨#[]⟩, .string ⟨#[]⟩, .int .i64 0, .int .i64 0], .bool false]) (by simp [results, Tryz.results33, go_sem, s0, s1, s2, s3, s4]) rfl ⟨rfl, (((((BZ.out.setCell (p := ⟨w.heap.size, 0, none⟩) (Nat.le_refl _) _).setCell (p := ⟨w.heap.size, 1, none⟩) (Nat.le_refl _) _).setCell (p := ⟨w.heap.size, 2, none⟩) (Nat.le_refl _) _).setCell (p := ⟨w.heap.size, 3, none⟩) (Nat.le_refl _) _).setCell (p := ⟨w.heap.size, 4, none⟩) (Nat.le_refl _) _)⟩
  | cons x t =>
    show Calls _ _ _ _ fun e w' => e = .returned (.tuple #[.agg (rqA x), .bool true]) ∧ Below w.heap.size w w'
    clear h
    obtain ⟨n, hn⟩ : ∃ n, (x :: t).length = n := ⟨_, rfl⟩
    have hn0 : 0 < n := by rw [← hn]; simp
    obtain ⟨g, hga, _⟩ := Q1.out.own.some_ (by rw [hn]; exact hn0)
    subst hga
    have hx : (x :: t)[0]? = some x := rfl
    unfold rqA
    obtain ⟨xi, xh, xp, xr, xt⟩ := x
    dsimp only
    go_enter Tryz.func33, Tryz.ntmps33
    go_upto_region 1 with fail
    obtain ⟨wz, hwz⟩ : ∃ W, w.alloc (.cells #[.int .i64 0, .string ⟨#[]⟩, .string ⟨#[]⟩, .int .i64 0, .int .i64 0] 35) = W := ⟨_, rfl⟩
    rw [hwz] at RB B0 Q1
    rw [hwz]
    clear hwz
    have LN := Lib.hid (len_at Q1.out)
    rw [hn] at LN
    go_wp2_with fail
    refine LN.out.mono ?_
    rintro e w1 ⟨rfl, rfl⟩
    have RZ := RB
    have BZ := B0
    have c0 := Q1.out.box.cell 0
    rw [hn] at c0
    have lq := Q1.out.box.lt
    have m0 : w1.cell? ⟨g, 0, none⟩ = some (.int .i64 xi) := Q1.out.own.cell rfl
    have m1 : w1.cell? ⟨g, 1, none⟩ = some (.string xh) := Q1.out.own.cell rfl
    have m2 : w1.cell? ⟨g, 2, none⟩ = some (.string xp) := Q1.out.own.cell rfl
    have m3 : w1.cell? ⟨g, 3, none⟩ = some (.int .i64 xr) := Q1.out.own.cell rfl
    have m4 : w1.cell? ⟨g, 4, none⟩ = some (.int .i64 xt) := Q1.out.own.cell rfl
    have hz : ((n : Int) == 0) = false := beq_eq_false_iff_ne.2 (by omega)
    have hq0 : (0 : Int) < (n : Int) := by omega
    have s0 := RZ.out.cell 0
    have t0 := RZ.out.free 0
    have s1 := RZ.out.cell 1
    have t1 := RZ.out.free 1
    have s2 := RZ.out.cell 2
    have t2 := RZ.out.free 2
    have s3 := RZ.out.cell 3
    have t3 := RZ.out.free 3
    have s4 := RZ.out.cell 4
    have t4 := RZ.out.free 4
    have lS := RZ.out.lt
    clear Q1 LN hn hx
    go_wp2
    exact bodyPost_ret (v := .tuple #[.agg #[.int .i64 xi, .string xh, .string xp, .int .i64 xr, .int .i64 xt], .bool true]) (by simp [results, Tryz.results33, go_sem, s0, s1, s2, s3, s4]) rfl ⟨rfl, (((((BZ.out.setCell (p := ⟨w.heap.size, 0, none⟩) (Nat.le_refl _) _).setCell (p := ⟨w.heap.size, 1, none⟩) (Nat.le_refl _) _).setCell (p := ⟨w.heap.size, 2, none⟩) (Nat.le_refl _) _).setCell (p := ⟨w.heap.size, 3, none⟩) (Nat.le_refl _) _).setCell (p := ⟨w.heap.size, 4, none⟩) (Nat.le_refl _) _)⟩
theorem qdrop_at {w : World} {B q cap : Nat} {a : Option Addr} {rs : List Rq} {most : Int} (h : Qm w B q a cap rs most) (n : Nat) (hn : rs.length = n) (hn2 : n ≤ 999999) (hB : B ≤ w.heap.size) (id : Int) :
    Calls Tryz.prog 31 #[.pointer (some ⟨q, 0, none⟩), .int .i64 id] w fun e w' => e = .returned (.bool (rs.any (idB id))) ∧ ∃ a' cap', Qm w' B q a' cap' (rs.filter fun x => !idB id x) most ∧ TurnQ q a w a' w' := by
  have BN := Lib.hid (Box.new w #[.int .i64 id] 3)
  have BB := Lib.hid ((Below.refl w.heap.size w).alloc (Nat.le_refl _) (.cells #[.int .i64 id] 3))
  have RM : Hid (∀ W, Below w.heap.size w W → Box W w.heap.size #[.int .i64 id] 3 → Calls Tryz.prog 54 #[.pointer (some ⟨q, 0, none⟩), .func (.func 55) #[] #[.pointer (some ⟨w.heap.size, 0, none⟩)]] W (RemP B q a rs (idB id) most W)) := Lib.hid (fun W hW hb => remove_at (h.later hW) n hn hn2 (Nat.le_trans hB hW.size) _ _ _ egD (meantD id _ W hb))
  have lq0 := h.box.lt
  have HV : Hid (decide (0 < (rs.filter (idB id)).length) = rs.any (idB id)) := Lib.hid (by
    rw [Bool.eq_iff_iff, decide_eq_true_eq, List.any_eq_true]
    constructor
    · intro hl
      obtain ⟨y, hy⟩ := List.exists_mem_of_length_pos (l := rs.filter (idB id)) (by omega)
      obtain ⟨h1, h2⟩ := List.mem_filter.1 hy
      exact ⟨y, h1, h2⟩
    · rintro ⟨y, h1, h2⟩
      have := List.length_pos_of_mem (List.mem_filter.2 ⟨h1, h2⟩)
      omega)
  obtain ⟨b, hb⟩ : ∃ b, rs.any (idB id) = b := ⟨_, rfl⟩
  rw [hb] at HV ⊢
  have TQ : Hid (∀ a' w', TurnQ q a (w.alloc (.cells #[.int .i64 id] 3)) a' w' → TurnQ q a w a' w') := Lib.hid (fun a' w' ht => (TurnQ.of_below BB.out).trans ht)
  clear h hb hn
  go_enter Tryz.func31, Tryz.ntmps31
  go_upto_region 1 with fail
  obtain ⟨w1, hw1⟩ : ∃ W, w.alloc (.cells #[.int .i64 id] 3) = W := ⟨_, rfl⟩
  rw [hw1] at BN BB TQ
  rw [hw1]
  clear hw1
  have lN := BN.out.lt
  go_wp2_with fail
  refine (RM.out _ BB.out BN.out).mono ?_
  rintro e w2 ⟨a', cap', ag, cg, rfl, hq, ht, _, _⟩
  have FIN := Lib.hid (⟨a', cap', hq, TQ.out _ _ ht⟩ : ∃ a' cap', Qm w2 B q a' cap' (rs.filter fun x => !idB id x) most ∧ TurnQ q a w a' w2)
  obtain ⟨m, hm⟩ : ∃ m, (rs.filter (idB id)).length = m := ⟨_, rfl⟩
  rw [hm] at HV ⊢
  have hv := HV.out
  clear hq ht hm TQ RM
  go_wp2
  go_ret
  exact ⟨rfl, FIN.out⟩
end Go.Proofs.YtimkgaokcldgkaaGreatDoor
/- Package queue: Push, Back. -/
namespace Go.Proofs.YtimkgaokcldgkaaGreatDoor
open Go Go.RowKit
set_option linter.unusedVariables false
set_option linter.unusedSimpArgs false
set_option maxRecDepth 10000

def BackP (B q : Nat) (a : Option Addr) (rs : List Rq) (most : Int) (r : Rq) (w : World) (e : Ending) (w' : World) : Prop :=
  (rs.any (idB r.id) = true ∧ e = .returned (.bool false) ∧ Below w.heap.size w w') ∨
  (rs.any (idB r.id) = false ∧ e = .returned (.bool true) ∧ ∃ a' cap', Qm w' B q a' cap' (insQ rs r) most ∧ TurnQ q a w a' w')
set_option maxHeartbeats 4000000 in
theorem back_at {w : World} {B q cap : Nat} {a : Option Addr} {rs : List Rq} {most : Int} (h : Qm w B q a cap rs most) (hs : Srt rs) (n : Nat) (hn : rs.length = n) (hn2 : n ≤ 999999) (hB : B ≤ w.heap.size) (r : Rq) :
    Calls Tryz.prog 53 #[.pointer (some ⟨q, 0, none⟩), .agg (rqA r)] w (BackP B q a rs most r w) := by
  have BN := Lib.hid (Box.new w (rqA r) 35)
  have BB := Lib.hid ((Below.refl w.heap.size w).alloc (Nat.le_refl _) (.cells (rqA r) 35))
  have FD : Hid (∀ W, Below w.heap.size w W → Calls Tryz.prog 72 #[.pointer (some ⟨q, 0, none⟩), .int .i64 r.id] W fun e w' => (∃ i : Int, e = .returned (.int .i64 i) ∧ decide (0 ≤ i) = rs.any (idB r.id)) ∧ Below W.heap.size W w') := Lib.hid (fun W hW => find_at (h.later hW) r.id)
  have CN : Hid (∀ W, Below w.heap.size w W → Calls Tryz.prog 56 #[.pointer (some ⟨q, 0, none⟩)] W fun e w' => e = .returned (.int .i64 (n : Int)) ∧ w' = W) := Lib.hid (fun W hW => by have := count_at (h.later hW); rw [hn] at this; exact this)
  have PT : Hid (∀ W, Below w.heap.size w W → Calls Tryz.prog 73 #[.pointer (some ⟨q, 0, none⟩), .agg (rqA r), .func (.func 74) #[] #[]] W fun e w' => e = .returned (.tuple #[]) ∧ ∃ a' cap', Qm w' B q a' cap' (insQ rs r) most ∧ TurnQ q a W a' w') := Lib.hid (fun W hW => insert_at (h.later hW) hs (by omega) (Nat.le_trans hB hW.size) r)
  have QM := Lib.hid h
  have hqw := h.box.lt
  obtain ⟨has, hhas⟩ : ∃ b, rs.any (idB r.id) = b := ⟨_, rfl⟩
  rw [hhas] at FD
  have HHAS := Lib.hid hhas
  have HN := Lib.hid hn
  clear h hs hn hhas
  obtain ⟨ra, hra⟩ : ∃ ra, rqA r = ra := ⟨_, rfl⟩
  rw [hra] at BN BB PT ⊢
  have HRA : Hid (ra = #[.int .i64 r.id, .string r.host, .string r.path, .int .i64 r.prio, .int .i64 r.til]) := Lib.hid (by rw [← hra]; rfl)
  clear hra
  obtain ⟨ri, rh, rp, rr, rt⟩ := r
  obtain rfl := HRA.out
  clear HRA
  dsimp only at FD
  go_enter Tryz.func53, Tryz.ntmps53
  go_upto_region 1 with fail
  obtain ⟨w1, hw1⟩ : ∃ W, w.alloc (.cells #[.int .i64 ri, .string rh, .string rp, .int .i64 rr, .int .i64 rt] 35) = W := ⟨_, rfl⟩
  rw [hw1] at BN BB
  rw [hw1]
  clear hw1
  have t0 := BN.out.cell 0
  have lT := BN.out.lt
  have WB := BB
  obtain ⟨T, hT⟩ : ∃ T, w.heap.size = T := ⟨_, rfl⟩
  rw [hT] at BN t0 lT hqw ⊢
  have lq : q < w1.heap.size := by omega
  refine wp_region_last 10 (fun w' => w'.heap[T]? = w1.heap[T]? ∧ w'.heap[q]? = w1.heap[q]?) (by kernel_rfl) (⟨rfl, rfl⟩) (fun hHeld hClosed => ?_)
  refine wtk (i := 0) (v := ?_) rfl hClosed (Or.inl ⟨by rfl, ?_⟩) hHeld (fun hClosed => ?_)
  rotate_left
  · intro wv hSw; go_simp; all_goals (with_reducible rfl)
  (try simp only [List.getElem_toArray, List.getElem_cons_zero, put_at, List.set])
  refine wtk (i := 1) (v := ?_) rfl hClosed (Or.inl ⟨by rfl, ?_⟩) hHeld (fun hClosed => ?_)
  rotate_left
  · intro wv hSw; go_simp; all_goals (with_reducible rfl)
  (try simp only [List.getElem_toArray, List.getElem_cons_succ, List.getElem_cons_zero, put_at, List.set])
  refine wtk (i := 2) (v := ?_) rfl hClosed (Or.inl ⟨by rfl, ?_⟩) hHeld (fun hClosed => ?_)
  rotate_left
  · intro wv hSw; go_simp; all_goals (with_reducible rfl)
  (try simp only [List.getElem_toArray, List.getElem_cons_succ, List.getElem_cons_zero, put_at, List.set])
  refine wtk (i := 3) (v := ?_) rfl hClosed (Or.inl ⟨by rfl, ?_⟩) hHeld (fun hClosed => ?_)
  rotate_left
  · intro wv hSw; go_simp; all_goals (with_reducible rfl)
  (try simp only [List.getElem_toArray, List.getElem_cons_succ, List.getElem_cons_zero, put_at, List.set])
  refine wtk (i := 4) (v := ?_) rfl hClosed (Or.inl ⟨by rfl, ?_⟩) hHeld (fun hClosed => ?_)
  rotate_left
  · intro wv hSw; go_simp; all_goals (with_reducible rfl)
  (try simp only [List.getElem_toArray, List.getElem_cons_succ, List.getElem_cons_zero, put_at, List.set])
  refine wtk (i := 5) (v := ?_) rfl hClosed (Or.inl ⟨by rfl, ?_⟩) hHeld (fun hClosed => ?_)
  rotate_left
  · intro wv hSw; go_simp; all_goals (with_reducible rfl)
  (try simp only [List.getElem_toArray, List.getElem_cons_succ, List.getElem_cons_zero, put_at, List.set])
  refine wtk (i := 6) (v := ?_) rfl hClosed (Or.inl ⟨by rfl, ?_⟩) hHeld (fun hClosed => ?_)
  rotate_left
  · intro wv hSw; go_simp; all_goals (with_reducible rfl)
  (try simp only [List.getElem_toArray, List.getElem_cons_succ, List.getElem_cons_zero, put_at, List.set])
  refine wtk (i := 7) (v := ?_) rfl hClosed (Or.inl ⟨by rfl, ?_⟩) hHeld (fun hClosed => ?_)
  rotate_left
  · intro wv hSw; have e0 := cell_blk hSw.1 0; rw [t0] at e0; go_simp; all_goals (with_reducible rfl)
  (try simp only [List.getElem_toArray, List.getElem_cons_succ, List.getElem_cons_zero, put_at, List.set])
  refine wpAnyL_one (i := 8) rfl (by kernel_rfl) (by kernel_rfl) hClosed (fun KK hK => ?_)
  go_simp
  refine (FD.out _ WB.out.drew).mono ?_
  rintro e wq ⟨⟨ix, rfl, hix⟩, hbq⟩
  go_wp2_with fail
  refine hK.out _ _ ?_ (fun hClosed hHeld => ?_)
  · exact ⟨(hbq.block T lT).trans hHeld.1, (hbq.block q lq).trans hHeld.2⟩
  clear hK KK
  (first | simp only [List.getElem_toArray, List.getElem_cons_succ, List.getElem_cons_zero, put_at, List.set] | (try simp only [put_at, List.set]))
  have BQ := Lib.hid (WB.out.drew.trans (hbq.mono WB.out.drew.size))
  have HIX := Lib.hid hix
  clear hbq hix FD
  refine wtk (i := 9) (v := ?_) rfl hClosed (Or.inl ⟨by rfl, ?_⟩) hHeld (fun hClosed => ?_)
  rotate_left
  · intro wv hSw; go_simp; all_goals (with_reducible rfl)
  (try simp only [List.getElem_toArray, List.getElem_cons_succ, List.getElem_cons_zero, put_at, List.set])
  refine wpAnyL_last rfl (by kernel_rfl) (by kernel_rfl) (fun KK hK => ?_)
  go_simp
  refine hK.out _ _ ?_
  (try simp only [put_at, List.set])
  cases has with
  | true =>
    have hx0 : (0 : Int) ≤ ix := of_decide_eq_true HIX.out
    have hx1 : decide (0 ≤ ix) = true := HIX.out
    go_wp2
    go_ret
    exact Or.inl ⟨HHAS.out, rfl, BQ.out⟩
  | false =>
    have hx0 : ¬ (0 : Int) ≤ ix := of_decide_eq_false HIX.out
    have hx1 : decide (0 ≤ ix) = false := HIX.out
    obtain ⟨wz, hwz⟩ : ∃ W, wq = W := ⟨_, rfl⟩
    have BNQ : Hid (Box wz T #[.int .i64 ri, .string rh, .string rp, .int .i64 rr, .int .i64 rt] 35) := Lib.hid (by rw [← hwz]; exact hHeld.1.trans BN.out)
    rw [hwz] at BQ ⊢
    clear hwz hHeld hClosed t0 lT lq HIX
    have WZ := Lib.hid (BQ.out.drew)
    have BNZ := Lib.hid (show Box wz T #[.int .i64 ri, .string rh, .string rp, .int .i64 rr, .int .i64 rt] 35 from BNQ.out)
    have u0 := BNQ.out.cell 0
    have u1 := BNQ.out.cell 1
    have u2 := BNQ.out.cell 2
    have u3 := BNQ.out.cell 3
    have u4 := BNQ.out.cell 4
    have lT2 := BNQ.out.lt
    have lq2 : q < wz.heap.size := Nat.lt_of_lt_of_le (by omega) BQ.out.size
    try clear CN
    go_upto_region 3 with fail
    go_still_tail 4, (by kernel_rfl)
    change wpList _ _ _ _ _ wz.drew
    generalize wz.drew = w2 at WZ ⊢
    go_wp2_with fail
    refine (PT.out _ WZ.out).mono ?_
    rintro e w3 ⟨rfl, a', cap', hq, ht⟩
    have FIN := Lib.hid (⟨a', cap', hq, (TurnQ.of_below WZ.out).trans ht⟩ : ∃ a' cap', Qm w3 B q a' cap' (insQ rs ⟨ri, rh, rp, rr, rt⟩) most ∧ TurnQ q a w a' w3)
    clear hq ht PT WZ
    go_wp2
    go_ret
    exact Or.inr ⟨HHAS.out, rfl, FIN.out⟩
end Go.Proofs.YtimkgaokcldgkaaGreatDoor
