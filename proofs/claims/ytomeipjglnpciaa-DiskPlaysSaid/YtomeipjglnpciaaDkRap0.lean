/- The document's disk: New; a segment laid in; a byte added. -/
import Derived.Test.YtomeipjglnpciaaDkRsync
namespace Go.Proofs.Ytomeipjglnpciaa
open Go Go.RowKit Go.Maps
set_option linter.unusedVariables false
set_option linter.unusedSimpArgs false
set_option maxRecDepth 10000

/-- An element of one's own, laid to be appended. -/
structure ElD (wc : World) (be : Nat) (ys : List Value) : Prop where
  rd : RdC wc (some ⟨be, 0, none⟩) ys
  hi : be < wc.heap.size
theorem ElD.later {w w' : World} {be : Nat} {ys : List Value} (h : ElD w be ys) (hb : Below w.heap.size w w') : ElD w' be ys := ⟨h.rd.later hb, Nat.lt_of_lt_of_le h.hi hb.size⟩
theorem ElD.grown {w w' : World} {be : Nat} {ys : List Value} {row : Option Nat} (h : ElD w be ys) (hg : w.grownBy w' row) (hn : row ≠ some be) : ElD w' be ys :=
  ⟨fun j u hj => by
    obtain ⟨b, o, e, hc⟩ := h.rd j u hj
    injection e with e
    injection e with e1 e2 _
    subst e1
    subst e2
    exact ⟨_, _, rfl, (cell_blk (hg.block be h.hi (fun e => hn e.symm)) _).trans hc⟩, Nat.lt_of_lt_of_le h.hi hg.size⟩
theorem newEl {wl wc : World} (cs : Array Value) (E : TypeId) (h : Below wl.heap.size wl wc) : ∃ wB b, wc.alloc (.cells cs E) = wB ∧ wc.heap.size = b ∧ Below wl.heap.size wl wB ∧ ElD wB b cs.toList ∧ Below wc.heap.size wc wB := by
  refine ⟨_, _, rfl, rfl, h.alloc h.size _, ⟨fun j u hj => ⟨_, 0, rfl, ?_⟩, by simp⟩, (Below.refl _ _).alloc (Nat.le_refl _) _⟩
  have hb := heap_alloc_new wc (.cells cs E)
  rw [Nat.zero_add]
  unfold World.cell?
  rw [hb]
  show cs[j]? = some u
  rw [← Array.getElem?_toList]
  exact hj
theorem sliceNil_run {P : Program} {T E : TypeId} {size bytes : Nat} (hT : RowTy P T E size bytes) (w : World) : (Instr.sliceAt T (.slice none 0 0) (some (.int .i64 ((0 : Nat) : Int))) none none).run P w = .ok (.slice none (0 - 0) (0 - 0)) w := by
  obtain ⟨i, z, hi, hz, hs, hb, hzs⟩ := hT.parts
  simp [Instr.sliceAt, Instr.slice, run_underlying hT.und, Instr.sliceBounds, Instr.sliceBound, asIntOf, sizeOf, typeInfo, hi, go_sem]
def mkB : Int → List Int → Bys
  | _, [] => []
  | x, b :: t => (b, x) :: mkB (x + 1) t
theorem mkB_snoc (x : Int) (l : List Int) (b : Int) : mkB x (l ++ [b]) = mkB x l ++ [(b, x + l.length)] := by
  induction l generalizing x with
  | nil => simp [mkB]
  | cons c t ih =>
    rw [List.cons_append, mkB, mkB, ih, List.cons_append, List.length_cons]
    congr 4
    omega
theorem mkB_len (x : Int) (l : List Int) : (mkB x l).length = l.length := by
  induction l generalizing x with
  | nil => rfl
  | cons c t ih => rw [mkB, List.length_cons, ih, List.length_cons]
theorem byC_snoc (bs : Bys) (b : Int × Int) : byC bs ++ byL b = byC (bs ++ [b]) := by unfold byC; rw [List.flatMap_append]; simp
theorem set_uniq {R : Rgs} (hs : R.Pairwise fun p q => p.1 < q.1) {i : Nat} {n : Int} {bs cs ds : Bys} (hi : R[i]? = some (n, bs)) {m : Int} (hm : (m, ds) ∈ R.set i (n, cs)) : (m = n ∧ ds = cs) ∨ (m ≠ n ∧ (m, ds) ∈ R) := by
  obtain ⟨p, hp⟩ := List.mem_iff_getElem?.1 hm
  have hil := (List.getElem?_eq_some_iff.1 hi).1
  rw [List.getElem?_set] at hp
  split at hp
  · injection hp with hp
    injection hp with h1 h2
    exact Or.inl ⟨h1.symm, h2.symm⟩
  · rename_i hne
    refine Or.inr ⟨fun e => ?_, List.mem_of_getElem? hp⟩
    have e1 := (List.getElem?_eq_some_iff.1 hp)
    have e2 := (List.getElem?_eq_some_iff.1 hi)
    rcases Nat.lt_or_gt_of_ne hne with hlt | hgt
    · have := (List.pairwise_iff_getElem.1 hs) i p e2.1 e1.1 hlt
      rw [e1.2, e2.2] at this
      dsimp only at this
      omega
    · have := (List.pairwise_iff_getElem.1 hs) p i e1.1 e2.1 hgt
      rw [e1.2, e2.2] at this
      dsimp only at this
      omega
theorem set_keys {R : Rgs} {i : Nat} {n : Int} {bs cs : Bys} (hi : R[i]? = some (n, bs)) : (R.set i (n, cs)).map Prod.fst = R.map Prod.fst := by
  rw [List.map_set]
  refine List.ext_getElem? fun j => ?_
  rw [List.getElem?_set]
  split
  · rename_i hj
    subst hj
    have hil := (List.getElem?_eq_some_iff.1 hi).1
    rw [List.length_map, if_pos hil, List.getElem?_map, hi]
    rfl
  · rfl
theorem srt_keys {R R' : Rgs} (h : R.Pairwise fun p q => p.1 < q.1) (e : R'.map Prod.fst = R.map Prod.fst) : R'.Pairwise fun p q => p.1 < q.1 := by
  have h1 : (R.map Prod.fst).Pairwise (· < ·) := List.pairwise_map.2 h
  rw [← e] at h1
  exact List.pairwise_map.1 h1
section
variable {w : World} {B d sc : Nat} {sa : Option Addr} {R : Rgs} {V : VF} {most next first fails : Int}
/-- A segment is laid in: the row is a new one. -/
theorem Rm.insrow (h : Rm w B d sa sc R V most next first fails) (hB : B ≤ w.heap.size) {w' : World} {a' : Option Addr} {c' n' i : Nat} {n : Int} (hi : i ≤ R.length) (hn : R.length + 1 = n') (hno : ∀ p ∈ R, p.1 ≠ n) (hlo : ∀ x p, x < i → R[x]? = some p → p.1 < n) (hhi : ∀ p, R[i]? = some p → ¬ p.1 < n) (hK : R.length < 16)
    (ho : Own w' w.heap.size 45 2 a' n' c' (sgC V (R.take i) ++ [.int .i64 n, .slice none 0 0] ++ sgC V (R.drop i))) (hb : Below w.heap.size w w') :
    Rm (w'.setCell ⟨d, 1, none⟩ (.slice a' n' c')) B d a' c' (R.take i ++ (n, []) :: R.drop i) (setV V n none 0) most next first fails ∧ TurnR d sa R V w a' (R.take i ++ (n, []) :: R.drop i) (setV V n none 0) (w'.setCell ⟨d, 1, none⟩ (.slice a' n' c')) := by
  subst hn
  have hl := h.later hb
  have off : ∀ {E : TypeId} {n c B2 : Nat} {a : Option Addr} {xs : List Value}, Own w' B2 E 2 a n c xs → E ≠ 37 → Own (w'.setCell ⟨d, 1, none⟩ (.slice a' (R.length + 1) c')) B2 E 2 a n c xs := fun {E n c B2 a xs} hr hE => hr.other (fun g e => by
    have h9 := hr
    rw [e] at h9
    exact own_not_box h9 hl.box (fun e => hE e.symm)) _
  have mem : ∀ m bs, (m, bs) ∈ R.take i ++ (n, []) :: R.drop i → (m = n ∧ bs = []) ∨ (m ≠ n ∧ (m, bs) ∈ R) := fun m bs hm => by
    rcases List.mem_append.1 hm with hm | hm
    · have := List.mem_of_mem_take hm
      exact Or.inr ⟨hno _ this, this⟩
    · rcases List.mem_cons.1 hm with hm | hm
      · injection hm with h1 h2
        exact Or.inl ⟨h1, h2⟩
      · have := List.mem_of_mem_drop hm
        exact Or.inr ⟨hno _ this, this⟩
  have hcs : sgC (setV V n none 0) (R.take i ++ (n, []) :: R.drop i) = sgC V (R.take i) ++ [.int .i64 n, .slice none 0 0] ++ sgC V (R.drop i) := by
    have key : ∀ l : Rgs, (∀ p ∈ l, p.1 ≠ n) → sgC (setV V n none 0) l = sgC V l := fun l hl => by
      induction l with
      | nil => rfl
      | cons p t ih =>
        have h1 := hl p List.mem_cons_self
        unfold sgC at *
        rw [List.flatMap_cons, List.flatMap_cons, ih (fun q hq => hl q (List.mem_cons_of_mem _ hq))]
        unfold sgL
        rw [setV_other _ _ _ _ h1]
    have e1 : sgC (setV V n none 0) (R.take i ++ (n, []) :: R.drop i) = sgC (setV V n none 0) (R.take i) ++ (sgL (setV V n none 0) (n, []) ++ sgC (setV V n none 0) (R.drop i)) := by
      unfold sgC
      rw [List.flatMap_append, List.flatMap_cons]
    have e2 : sgL (setV V n none 0) (n, []) = [.int .i64 n, .slice none 0 0] := by unfold sgL; rw [setV_same]; rfl
    rw [e1, e2, key _ (fun p hp => hno p (List.mem_of_mem_take hp)), key _ (fun p hp => hno p (List.mem_of_mem_drop hp)), List.append_assoc]
  have hlen : (R.take i ++ (n, ([] : Bys)) :: R.drop i).length = R.length + 1 := by rw [List.length_append, List.length_cons, List.length_take, List.length_drop]; omega
  refine ⟨⟨?_, ?_, fun m bs hm => ?_, fun m1 m2 bs cs hnm h1 h2 => ?_, ?_, h.dB, h.mo, by rw [hlen]; omega, h.fiB, h.faB, h.fi0, h.fa0⟩, (Only.of_below _ hb).setCell (Or.inl (Or.inl rfl)) _, fun k hk => ?_⟩
  · rw [hlen]; exact hl.box.set 1 _
  · rw [hlen, hcs]; exact (off ho (by decide)).mono hB
  · rcases mem m bs hm with ⟨rfl, rfl⟩ | ⟨h1, h2⟩
    · rw [setV_same]; exact Own.nil _ _ _ _
    · rw [setV_other _ _ _ _ h1]; exact off (hl.rows m bs h2) (by decide)
  · intro g e1 e2
    rcases mem m1 bs h1 with ⟨rfl, rfl⟩ | ⟨x1, x2⟩
    · rw [setV_same] at e1; cases e1
    · rcases mem m2 cs h2 with ⟨rfl, rfl⟩ | ⟨y1, y2⟩
      · rw [setV_same] at e2; cases e2
      · rw [setV_other _ _ _ _ x1] at e1
        rw [setV_other _ _ _ _ y1] at e2
        exact h.ne m1 m2 bs cs hnm x2 y2 g e1 e2
  · refine List.pairwise_append.2 ⟨h.srt.sublist (List.take_sublist _ _), List.pairwise_cons.2 ⟨fun q hq => ?_, h.srt.sublist (List.drop_sublist _ _)⟩, fun p hp q hq => ?_⟩
    · obtain ⟨x, hx⟩ := List.mem_iff_getElem?.1 hq
      rw [List.getElem?_drop] at hx
      have hxl := List.getElem?_eq_some_iff.1 hx
      have hil : i < R.length := by have := hxl.1; omega
      have h1 := hhi _ (List.getElem?_eq_getElem hil)
      have h2 := hno _ (List.getElem_mem hil)
      show n < q.1
      by_cases hx0 : x = 0
      · subst hx0
        have : R[i] = q := by rw [← hxl.2]; simp
        rw [this] at h1 h2
        omega
      · have h3 := (List.pairwise_iff_getElem.1 h.srt) i (i + x) hil hxl.1 (by omega)
        rw [hxl.2] at h3
        omega
    · obtain ⟨x, hx⟩ := List.mem_iff_getElem?.1 hp
      have hxl := (List.getElem?_eq_some_iff.1 hx).1
      rw [List.length_take] at hxl
      rw [List.getElem?_take] at hx
      split at hx
      · have h1 := hlo x p (by omega) hx
        rcases List.mem_cons.1 hq with rfl | hq
        · exact h1
        · obtain ⟨y, hy⟩ := List.mem_iff_getElem?.1 hq
          rw [List.getElem?_drop] at hy
          have e1 := List.getElem?_eq_some_iff.1 hx
          have e2 := List.getElem?_eq_some_iff.1 hy
          have h3 := (List.pairwise_iff_getElem.1 h.srt) x (i + y) e1.1 e2.1 (by omega)
          rw [e1.2, e2.2] at h3
          exact h3
      · cases hx
  · rcases hk with hk | hk | ⟨m, bs, hm, e⟩
    · exact Or.inl (Or.inl hk)
    · exact Or.inr (own_lt ho hk).2
    · rcases mem m bs hm with ⟨rfl, rfl⟩ | ⟨h1, h2⟩
      · rw [setV_same] at e; cases e
      · rw [setV_other _ _ _ _ h1] at e
        exact Or.inl (Or.inr (Or.inr ⟨m, bs, h2, e⟩))
/-- A segment's row is another one: grown, or new; its slice is stored. -/
theorem Rm.putby {gs : Nat} (h : Rm w B d (some ⟨gs, 0, none⟩) sc R V most next first fails) {i : Nat} {n : Int} {bs cs : Bys} (hi : R[i]? = some (n, bs)) {w3 : World} {a' : Option Addr} {c' l' : Nat} (hl : cs.length = l') (ho : Own w3 B 57 2 a' l' c' (byC cs)) (hg : w.grownBy w3 ((V n).1.map (·.block)))
    (q4 : ∀ g, a' = some ⟨g, 0, none⟩ → (V n).1.map (·.block) = some g ∨ w.heap.size ≤ g) :
    Rm (w3.setCell ⟨gs, i * 2 + 1, none⟩ (.slice a' l' c')) B d (some ⟨gs, 0, none⟩) sc (R.set i (n, cs)) (setV V n a' c') most next first fails ∧ TurnR d (some ⟨gs, 0, none⟩) R V w (some ⟨gs, 0, none⟩) (R.set i (n, cs)) (setV V n a' c') (w3.setCell ⟨gs, i * 2 + 1, none⟩ (.slice a' l' c')) := by
  subst hl
  have hmem : (n, bs) ∈ R := List.mem_of_getElem? hi
  have hrow := h.rows n bs hmem
  have hd : some d ≠ (V n).1.map (·.block) := fun e => by
    have h9 := own_block5 hrow e.symm
    rw [h9] at hrow
    exact own_not_box hrow h.box (by decide) rfl
  have hs : some gs ≠ (V n).1.map (·.block) := fun e => own_apart h.own hrow rfl (own_block5 hrow e.symm) (by decide)
  have b3 : Box w3 d #[.int .i64 most, .slice (some ⟨gs, 0, none⟩) R.length sc, .int .i64 next, .int .i64 first, .int .i64 fails] 37 := (hg.block d h.box.lt hd).trans h.box
  have o3 : Own w3 B 45 2 (some ⟨gs, 0, none⟩) R.length sc (sgC V R) := h.own.blocks fun g e => by
    injection e with e
    injection e with e
    subst e
    exact hg.block _ h.own.lt.2 hs
  have blk : ∀ m ds, (m, ds) ∈ R → m ≠ n → ∀ g, (V m).1 = some ⟨g, 0, none⟩ → some g ≠ (V n).1.map (·.block) := fun m ds hm hmn g e e2 => by
    exact h.ne m n ds bs hmn hm hmem g e (own_block5 hrow e2.symm)
  have r3 : ∀ m ds, (m, ds) ∈ R → m ≠ n → Own w3 B 57 2 (V m).1 ds.length (V m).2 (byC ds) := fun m ds hm hmn => (h.rows m ds hm).blocks fun g e => hg.block g (own_lt (h.rows m ds hm) e).1 (blk m ds hm hmn g e)
  have ngs : ∀ {n c : Nat} {a : Option Addr} {xs : List Value}, Own w3 B 57 2 a n c xs → Own (w3.setCell ⟨gs, i * 2 + 1, none⟩ (.slice a' cs.length c')) B 57 2 a n c xs := fun {n c a xs} hr => hr.other (fun g e1 e2 => by
    have e3 : g = gs := e2
    subst e3
    exact own_apart o3 hr rfl e1 (by decide)) _
  have hrow_eq : (sgC V R).set (i * 2 + 1) (.slice a' cs.length c') = sgC (setV V n a' c') (R.set i (n, cs)) := by
    have h1 : sgC (setV V n a' c') (R.set i (n, cs)) = (sgC (setV V n a' c') R).set (i * 2 + 1) (.slice a' cs.length c') := two_set (sgL _) (sgL_len _) (y := (n, cs)) hi rfl (by show some _ = some _; rw [setV_same])
    rw [h1]
    refine List.ext_getElem? fun j => ?_
    rw [List.getElem?_set, List.getElem?_set]
    have hlen : (sgC V R).length = (sgC (setV V n a' c') R).length := by unfold sgC; rw [two_len _ (sgL_len _), two_len _ (sgL_len _)]
    by_cases hj : i * 2 + 1 = j
    · rw [if_pos hj, if_pos hj, hlen]
    · rw [if_neg hj, if_neg hj]
      have hq : j = (j / 2) * 2 ∨ j = (j / 2) * 2 + 1 := by omega
      cases hp : R[j / 2]? with
      | none =>
        have := List.getElem?_eq_none_iff.1 hp
        rw [List.getElem?_eq_none (by unfold sgC; rw [two_len _ (sgL_len _)]; omega), List.getElem?_eq_none (by unfold sgC; rw [two_len _ (sgL_len _)]; omega)]
      | some p =>
        obtain ⟨x0, x1⟩ := two_get (sgL V) (sgL_len V) hp
        obtain ⟨y0, y1⟩ := two_get (sgL (setV V n a' c')) (sgL_len _) hp
        rcases hq with hq | hq
        · rw [hq]
          exact x0.trans y0.symm
        · have hij : j / 2 ≠ i := by omega
          have hpn : p.1 ≠ n := fun e => by
            have e1 := List.getElem?_eq_some_iff.1 hp
            have e2 := List.getElem?_eq_some_iff.1 hi
            rcases Nat.lt_or_gt_of_ne hij with hlt | hgt
            · have := (List.pairwise_iff_getElem.1 h.srt) _ _ e1.1 e2.1 hlt
              rw [e1.2, e2.2] at this
              dsimp only at this
              omega
            · have := (List.pairwise_iff_getElem.1 h.srt) _ _ e2.1 e1.1 hgt
              rw [e1.2, e2.2] at this
              dsimp only at this
              omega
          rw [hq]
          refine x1.trans (Eq.trans ?_ y1.symm)
          unfold sgL
          rw [setV_other _ _ _ _ hpn]
  have hsz := hg.size
  refine ⟨⟨?_, ?_, fun m ds hm => ?_, fun m1 m2 x1 x2 hnm h1 h2 => ?_, srt_keys h.srt (set_keys hi), h.dB, h.mo, by rw [List.length_set]; exact h.cnt, h.fiB, h.faB, h.fi0, h.fa0⟩, ?_, fun k hk => ?_⟩
  · rw [List.length_set]
    exact b3.other (fun e => own_not_box o3 b3 (by decide) e.symm) _
  · rw [List.length_set, ← hrow_eq]
    exact o3.set _ _
  · rcases set_uniq h.srt hi hm with ⟨rfl, rfl⟩ | ⟨h1, h2⟩
    · rw [setV_same]; exact ngs ho
    · rw [setV_other _ _ _ _ h1]; exact ngs (r3 m ds h2 h1)
  · intro g e1 e2
    have key : ∀ m ds, (m, ds) ∈ R → m ≠ n → (V m).1 = some ⟨g, 0, none⟩ → a' = some ⟨g, 0, none⟩ → False := fun m ds hm hmn e3 e4 => by
      rcases q4 g e4 with h5 | h5
      · exact blk m ds hm hmn g e3 h5.symm
      · have := (own_lt (h.rows m ds hm) e3).1
        omega
    rcases set_uniq h.srt hi h1 with ⟨rfl, rfl⟩ | ⟨y1, y2⟩
    · rcases set_uniq h.srt hi h2 with ⟨rfl, rfl⟩ | ⟨z1, z2⟩
      · exact hnm rfl
      · rw [setV_same] at e1
        rw [setV_other _ _ _ _ z1] at e2
        exact key m2 x2 z2 z1 e2 e1
    · rcases set_uniq h.srt hi h2 with ⟨rfl, rfl⟩ | ⟨z1, z2⟩
      · rw [setV_same] at e2
        rw [setV_other _ _ _ _ y1] at e1
        exact key m1 x1 y2 y1 e1 e2
      · rw [setV_other _ _ _ _ y1] at e1
        rw [setV_other _ _ _ _ z1] at e2
        exact h.ne m1 m2 x1 x2 hnm y2 z2 g e1 e2
  · have hO : Only (MineR d (some ⟨gs, 0, none⟩) R V) w w3 := Only.of_grown hg fun k hk => Or.inr (Or.inr ⟨n, bs, hmem, own_block5 hrow hk⟩)
    exact hO.setCell (Or.inl (Or.inr (Or.inl rfl))) _
  · rcases hk with hk | hk | ⟨m, ds, hm, e⟩
    · exact Or.inl (Or.inl hk)
    · exact Or.inl (Or.inr (Or.inl hk))
    · rcases set_uniq h.srt hi hm with ⟨rfl, rfl⟩ | ⟨h1, h2⟩
      · rw [setV_same] at e
        rcases q4 k e with h5 | h5
        · exact Or.inl (Or.inr (Or.inr ⟨m, bs, hmem, own_block5 hrow h5⟩))
        · exact Or.inr h5
      · rw [setV_other _ _ _ _ h1] at e
        exact Or.inl (Or.inr (Or.inr ⟨m, ds, h2, e⟩))
end
def moR (x : Int) : Int := if x < 0 then 0 else if 16 < x then 16 else x
set_option maxHeartbeats 2000000 in
theorem rnew_at (x : Int) (w : World) (B : Nat) (hB : B ≤ w.heap.size) : Calls Try.prog 5 #[.int .i64 x] w fun e w' => e = .returned (.pointer (some ⟨w.heap.size, 0, none⟩)) ∧ Rm w' B w.heap.size none 0 [] (fun _ => (none, 0)) (moR x) 0 0 0 ∧ Below w.heap.size w w' := by
  obtain ⟨m, hm⟩ : ∃ m, moR x = m := ⟨_, rfl⟩
  have FIN : Hid (Rm (w.alloc (.cells #[.int .i64 m, .slice none 0 0, .int .i64 0, .int .i64 0, .int .i64 0] 37)) B w.heap.size none 0 [] (fun _ => (none, 0)) m 0 0 0 ∧ Below w.heap.size w (w.alloc (.cells #[.int .i64 m, .slice none 0 0, .int .i64 0, .int .i64 0, .int .i64 0] 37))) := Lib.hid
    ⟨⟨Box.new w _ _, Own.nil _ _ _ _, fun n b hn => (by cases hn), fun n m b c _ hn => (by cases hn), List.Pairwise.nil, hB, by rw [← hm]; unfold moR; split; omega; split <;> omega, by simp, by omega, by omega, by omega, by omega⟩, (Below.refl _ _).alloc (Nat.le_refl _) _⟩
  rw [hm]
  unfold moR at hm
  by_cases h1 : x < 0
  · have d1 : decide (x < 0) = true := decide_eq_true h1
    rw [if_pos h1] at hm
    subst hm
    go_enter Try.func5, Try.ntmps5
    go_wp2
    go_ret
    exact ⟨rfl, FIN.out⟩
  · have d1 : decide (x < 0) = false := decide_eq_false h1
    rw [if_neg h1] at hm
    by_cases h2 : 16 < x
    · have d2 : decide (16 < x) = true := decide_eq_true h2
      rw [if_pos h2] at hm
      subst hm
      go_enter Try.func5, Try.ntmps5
      go_wp2
      go_ret
      exact ⟨rfl, FIN.out⟩
    · have d2 : decide (16 < x) = false := decide_eq_false h2
      rw [if_neg h2] at hm
      subst hm
      go_enter Try.func5, Try.ntmps5
      go_wp2
      go_ret
      exact ⟨rfl, FIN.out⟩
end Go.Proofs.Ytomeipjglnpciaa
