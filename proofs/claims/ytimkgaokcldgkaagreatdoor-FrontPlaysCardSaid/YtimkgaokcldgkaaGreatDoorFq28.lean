/- Part of a chain: SpKyS, SpLod, SpPen, SpRom, SpWri, SpDrp, SrSwr, SrRot, SrCmp, SrIns, SrSym, SrStb, SpKep, SpRcs. -/
import Derived.Test.YtimkgaokcldgkaaGreatDoorFq21
import Derived.Test.YtimkgaokcldgkaaGreatDoorFq27
import Derived.Test.YtimkgaokcldgkaaGreatDoorFq20
import Derived.Sort.KeysCollected
import Derived.Sort.OwnSorted
import Derived.Maps.RangeWalk
import Derived.Laws.IdiomRangeMap
import Derived.Test.YtimkgaokcldgkaaGreatDoorFq08
/- Package spill: the keys of the map of waits, rising. -/
namespace Go.Proofs.YtimkgaokcldgkaaGreatDoor
open Go Go.RowKit Go.Maps Go.Sort Go.Shelf
set_option linter.unusedVariables false
set_option linter.unusedSimpArgs false
set_option maxRecDepth 10000

def stL (l : List (List UInt8)) : List Value := l.map encStr
def srtB (l : List (List UInt8)) : List (List UInt8) := l.mergeSort leB
theorem rowS : RowTy Tryz.prog 54 9 1 16 := ⟨Tryz.underlying54, ⟨.string ⟨#[]⟩, by kernel_rfl, rfl⟩, by decide⟩
theorem sortS_at {w : World} {B n c : Nat} {a : Option Addr} (ss : List (List UInt8)) (hn : ss.length = n) (h : Own w B 9 1 a n c (stL ss)) (hB : B ≤ w.heap.size) (hf : n ≤ 100000000) :
    Calls Tryz.prog 105 #[.slice a n c] w fun e w' => e = .returned (.tuple #[]) ∧ Own w' B 9 1 a n c (stL (srtB ss)) ∧ Below B w w' := by
  subst hn
  by_cases h0 : ss.length = 0
  · have hs : ss = [] := List.eq_nil_of_length_eq_zero h0
    subst hs
    refine (AnyM.slices_Sort_string_none Tryz.sortS a c w).mono ?_
    rintro e w' ⟨rfl, rfl⟩
    have e0 : srtB [] = [] := by simp [srtB]
    rw [e0]
    exact ⟨rfl, h, Below.refl _ _⟩
  · rcases h.2 with ⟨_, e0⟩ | ⟨g, cap, cur, e, hBg, hg, h1, h2, h3, h4⟩
    · exact absurd e0 h0
    · injection e with e1 e2 e3
      subst e1 e3
      rw [Nat.mul_one] at h4
      refine (AnyM.slices_Sort_string Tryz.sortS g 0 c ss w (holds_of_block hg h4) (Array.getElem?_eq_some_iff.1 hg).1 (by omega)).mono ?_
      rintro e w' ⟨rfl, k, os, rfl⟩
      exact ⟨rfl, ownsRow_sorted (by rw [List.length_mergeSort]) hBg hg h1 h2 h3, (Below.refl _ w).grown (grownBy_sorted _) hB (fun k hk => by injection hk with hk; omega)⟩
/-- What the loop holds. -/
structure KeyLs (w : World) (pm : Nat) (N : Nat) (D : DataW Value) (left : Lit → Bool) (cnt : Nat) (ss : List (List UInt8)) (n c : Nat) (a : Option Addr) (wr : World) : Prop where
  rg : wr.ranges Tryz.prog 9 RHm pm w.heap.size N D left cnt
  tot : ss.length + cnt ≤ N
  col : Collected D left ss
  len : ss.length = n
  own : Own wr w.heap.size 9 1 a n c (stL ss)
  bel : Below w.heap.size w wr
set_option maxHeartbeats 2000000 in
theorem keysS_at {w : World} {pm : Nat} {S : List (ByteArray × Wt)} (h : WtM1 w pm S) (n : Nat) (hn : S.length = n) (hf : n ≤ 1000000) :
    Calls Tryz.prog 82 #[.map (some pm)] w fun e w' => ∃ a c, e = .returned (.slice a n c) ∧ Own w' w.heap.size 9 1 a n c (stL (srtB (S.map (fun p => p.1.data.toList)))) ∧ Below w.heap.size w w' := by
  obtain ⟨D, es, hes, hown, hperm, _, _⟩ := h.keys tyW
  rw [hn] at hown
  have hsz : Maps.size D ≤ n := hown.size_le
  have HP : Hid ((S.map (fun p => p.1.data.toList)).Perm (strKeys D)) := Lib.hid (by
    have := hperm.map (_root_.Go.strOf : Lit → List UInt8)
    rw [List.map_map, List.map_map] at this
    rw [hes]
    exact this)
  have HPM := Lib.hid h.lt
  have HOWN := Lib.hid hown
  have HN := Lib.hid hn
  clear hperm hes h hn
  go_enter Tryz.func82, Tryz.ntmps82
  go_wp2_with (first | (at_range; refine wpList_range_own _ rfl _ 59 rfl 9 142 tyW.key tyW.und RHm pm n D rfl HOWN.out ?_; intro w0 hrg0 hg0 hs0) | go_in)
  go_frame
  go_loopw [3] (fun vl wr => ∃ (left : Lit → Bool) (cnt : Nat) (ss : List (List UInt8)) (k c : Nat) (a : Option Addr), vl = .slice a k c ∧ k ≤ n ∧ Hid (KeyLs w pm n D left cnt ss k c a wr)) (fun _ wr => wr.rangeLeft pm w.heap.size)
  case atStart => exact ⟨_, _, [], 0, 0, none, rfl, by omega, Lib.hid ⟨hrg0, by simpa using hsz, Collected.start D, rfl, Own.nil _ _ _ _, (Below.refl _ w).grown hg0 (Nat.le_refl _) (fun k hk => by cases hk)⟩⟩
  case round =>
    obtain ⟨left, cnt, ss, k, c, a, rfl, hk, HK⟩ := hrel
    go_wp2_with (first
      | (at_next; refine wpList_next_ranges _ rfl _ rfl 9 tyW.key RHm encStr id (fun key kl hk => by obtain ⟨x, hx, _⟩ := Maps.keyOf_str Tryz.underlying9 hk; exact ⟨x, hx⟩) (fun v _ _ => ⟨v, rfl⟩) pm w.heap.size n _ _ _ rfl HK.out.rg ?_ ?_)
      | go_in)
    · intro hc0 hl0
      have HKP : Hid (ss.Perm (S.map (fun p => p.1.data.toList))) := Lib.hid ((HK.out.col.perm HOWN.out tyW.key Tryz.underlying9 hl0).trans HP.out.symm)
      have SRT := Lib.hid (fun (hkn : k ≤ 100000000) => sortS_at ss HK.out.len HK.out.own HK.out.bel.size hkn)
      go_wp2_with fail
      refine (SRT.out (by omega)).mono ?_
      rintro e w5 ⟨rfl, ho, hb⟩
      have HO := Lib.hid ho
      have HB := Lib.hid (HK.out.bel.trans hb)
      clear ho hb SRT
      go_wp2_with fail
      go_ret
      obtain rfl : k = n := by
        have := HKP.out.length_eq
        rw [List.length_map, HN.out, HK.out.len] at this
        exact this
      refine ⟨a, c, rfl, ?_, HB.out⟩
      have e1 : srtB ss = srtB (S.map (fun p => p.1.data.toList)) := mergeSort_of_perm HKP.out
      rw [← e1]
      exact HO.out
    · intro x cc kl yd yp w2 cnt2 hkey hlk hv hat hrg2 hlt hg2 hs2 hen
      obtain ⟨x', ex, rfl, hwf⟩ := Maps.keyOf_str Tryz.underlying9 hkey
      obtain rfl : x = x' := encStr_inj ex
      have hit := HK.out.rg.iter_walk
      have O2 := Lib.hid (own_keptK HK.out.own hg2 hit)
      have B2 := Lib.hid (HK.out.bel.grown hg2 HK.out.bel.size (fun k hk => by injection hk with hk; omega))
      have RG2 := Lib.hid hrg2
      have COL := Lib.hid (HK.out.col.step hlk hat)
      have hkl : k + 1 ≤ n := by have := HK.out.tot; have := HK.out.len; omega
      have TOT : Hid ((ss ++ [x]).length + cnt2 ≤ n) := Lib.hid (by have := HK.out.tot; rw [List.length_append, List.length_singleton]; omega)
      have LEN : Hid ((ss ++ [x]).length = k + 1) := Lib.hid (by rw [List.length_append, HK.out.len]; rfl)
      have HZ : Hid (stL ss ++ #[encStr x].toList = stL (ss ++ [x])) := Lib.hid (by unfold stL; simp)
      have LT := Lib.hid hlt
      have L0 := Lib.hid HK.out.rg.left_eq
      have NEW : Hid (∀ (w5 : World) (g5 c5 : Nat), Own w5 w.heap.size 9 1 (some ⟨g5, 0, none⟩) (k + 1) c5 (stL (ss ++ [x])) → w2.grownBy w5 (a.map (·.block)) → Below w.heap.size w2 w5 → KeyLs w pm n D (fun z => left z && !z.sameKey (.string x)) cnt2 (ss ++ [x]) (k + 1) c5 (some ⟨g5, 0, none⟩) w5) := Lib.hid (fun w5 g5 c5 p1 p2 p3 => ⟨RG2.out.kept p2 (fun e => by have := (own_ne_iter O2.out RG2.out.iter_walk e.symm).2; have := HPM.out; omega) (fun e => (own_ne_iter O2.out RG2.out.iter_walk e.symm).1 rfl), TOT.out, COL.out, LEN.out, p1, B2.out.trans p3⟩)
      clear hs2 hit hg2 hrg2 hlk hat hkey hlt
      go_wp2_with (at_builtin; refine wpList_app1 rowS rfl _ _ rfl w.heap.size a k c (stL ss) rfl O2.out #[encStr x] rfl rfl (by simp [encStr, Value.oneCell']) (by omega) (by decide) B2.out.size (k + 1) rfl (stL (ss ++ [x])) HZ.out ?_; rintro g5 c5 w5 p1 p2 p3 p4; have NX := Lib.hid (NEW.out _ _ _ p1 p2 p3); clear p1 p2 p3 p4 O2 B2)
      go_roundw
      case rel => exact ⟨_, cnt2, ss ++ [x], k + 1, _, _, rfl, hkl, NX⟩
      case measure => rw [NX.out.rg.left_eq, L0.out]; exact LT.out
theorem keysS_nil (w : World) : Calls Tryz.prog 82 #[.map none] w fun e w' => e = .returned (.slice none 0 0) ∧ Below w.heap.size w w' := by
  have hr := run_range_nilMap (P := Tryz.prog) w 59 _ _ Tryz.underlying59
  have hnx : ∀ ty, (Instr.next (.pointer (some ⟨w.heap.size, 0, none⟩)) false ty).run Tryz.prog (w.alloc (.mapIter none 0 #[] 0)) = _ := fun ty => run_next_nilMap _ ty 0 0 #[]
  have SRT := Lib.hid (fun W => AnyM.slices_Sort_string_none Tryz.sortS none 0 W)
  have hb : Below w.heap.size w (w.alloc (.mapIter none 0 #[] 0)) := (Below.refl _ _).alloc (Nat.le_refl _) _
  go_enter Tryz.func82, Tryz.ntmps82
  go_wp2
  refine wp_loop_rounds 1 ?_
  rw [rounds_succ]
  go_wp2_with fail
  refine (SRT.out _).mono ?_
  rintro e w' ⟨rfl, rfl⟩
  go_wp2_with fail
  go_ret
  exact ⟨rfl, hb⟩
/-- The keys of the map of waits, if there is one. -/
theorem keysW_at {w : World} {wm : Option Nat} {S : List (ByteArray × Wt)} (h : WtM w wm S) (n : Nat) (hn : S.length = n) (hf : n ≤ 1000000) :
    Calls Tryz.prog 82 #[.map wm] w fun e w' => ∃ a c, e = .returned (.slice a n c) ∧ Own w' w.heap.size 9 1 a n c ((srtS (S.map Prod.fst)).map Value.string) ∧ Below w.heap.size w w' := by
  rcases h with ⟨rfl, rfl⟩ | ⟨m, rfl, h⟩
  · refine (keysS_nil w).mono ?_
    rintro e w' ⟨rfl, hb⟩
    obtain rfl : 0 = n := hn
    have e0 : (srtS ([] : List ByteArray)) = [] := by simp [srtS]
    refine ⟨none, 0, rfl, ?_, hb⟩
    show Own w' w.heap.size 9 1 none 0 0 ((srtS ([] : List ByteArray)).map Value.string)
    rw [e0]
    exact Own.nil _ _ _ _
  · refine (keysS_at h n hn hf).mono ?_
    rintro e w' ⟨a, c, rfl, ho, hb⟩
    refine ⟨a, c, rfl, ?_, hb⟩
    have e0 : (srtS (S.map Prod.fst)).map Value.string = stL (srtB (S.map fun p => p.1.data.toList)) := by
      unfold srtS stL srtB
      rw [List.map_map, List.map_map]
      rfl
    rw [e0]
    exact ho
end Go.Proofs.YtimkgaokcldgkaaGreatDoor
/- Package spill: Load of a log. Written by gen_load.py. -/
namespace Go.Proofs.YtimkgaokcldgkaaGreatDoor
open Go Go.RowKit Go.Maps
set_option linter.unusedVariables false
set_option linter.unusedSimpArgs false
set_option maxRecDepth 100000

theorem DkM.drew_ {w : World} {R : Nat → Prop} {d : Nat} {D : Ds} (h : DkM w R d D) : DkM w.drew R d D := h.later (Below.refl _ w).drew
theorem LgM.rd {w : World} {RD RL : Nat → Prop} {d L : Nat} {g : Lg} (h : LgM w RD RL d L g) : RD d := by
  obtain ⟨bm, uc, V, ua, hd, hm⟩ := h.dk.dm
  exact hm d (Or.inl rfl)
theorem atI_ok {x : Ix} (h : IxOk x) (id : Int) : PlOk (atI x id) := by
  unfold atI
  cases hg : gA x.puts id with
  | none => exact plOk_zero
  | some p => exact (h.puts id p hg).1
set_option maxHeartbeats 2000000 in
theorem load_at {w : World} {RD RL : Nat → Prop} {d L : Nat} {g : Lg} (h : LgM w RD RL d L g) (id : Int) (hid : okI id) :
    Calls Tryz.prog 57 #[.pointer (some ⟨L, 0, none⟩), .int .i64 id] w fun e w' => e = .returned (.tuple #[.agg (reqL ((loadL g id).getD rc0)).toArray, .bool (loadL g id).isSome]) ∧ Below w.heap.size w w' := by
  obtain ⟨pm, wm, hi, hmi⟩ := h.lx.ix
  obtain ⟨q, hq⟩ : ∃ q, (gA g.x.puts id).isSome = q := ⟨_, rfl⟩
  have LE : Hid (loadL g id = if q = true then rdL g.D.S (atI g.x id) else none) := Lib.hid (by rw [← hq]; rfl)
  have hpk := atI_ok h.lx.ok id
  obtain ⟨p, hp⟩ : ∃ p, atI g.x id = p := ⟨_, rfl⟩
  have LK : Hid (∀ W, PtM W pm g.x.puts → (Instr.lookup 58 (.map (some pm)) (.int .i64 id) true).run Tryz.prog W = .ok (.tuple #[plV p, .bool q]) W) := Lib.hid (fun W hW => by
    rw [hW.look_ok tyP id hid, getD_map, hq, ← hp]
    rfl)
  have RDA := Lib.hid (fun (W : World) (hW : DkM W RD d g.D) => ksread_at hW p (hp ▸ hpk))
  rw [hp] at LE
  have G := Lib.hid h
  have HRd := Lib.hid h.rd
  have HRL := Lib.hid (hmi L (Or.inl rfl))
  have BL := Lib.hid hi.box
  have PT := Lib.hid hi.puts
  obtain ⟨p1, p2, p3⟩ := p
  clear hq hp hpk hi hmi h
  go_enter Tryz.func57, Tryz.ntmps57
  go_upto_region 1 with fail
  refine code_forget (fun W => Hid (Box W w.heap.size #[.int .i64 0, .string ⟨#[]⟩, .string ⟨#[]⟩, .int .i64 0, .int .i64 0] 35) ∧ Hid (Below w.heap.size w W)) ⟨Lib.hid (Box.new w _ _), Lib.hid ((Below.refl w.heap.size w).alloc (Nat.le_refl _) _)⟩ ?_
  obtain ⟨rb, hrb⟩ : ∃ p, w.heap.size = p := ⟨_, rfl⟩
  have HRB := Lib.hid hrb
  rw [hrb]
  rintro w1 ⟨BR1, B1⟩
  rw [← HRB.out] at B1
  clear hrb
  have HNR : Hid (¬ RD rb ∧ ¬ RL rb) := Lib.hid ⟨fun e => by have := G.out.dk.lt _ e; have := HRB.out; omega, fun e => by have := G.out.lx.lt _ e; have := HRB.out; omega⟩
  have BL1 := Lib.hid (BL.out.later B1.out)
  have c2 : w1.cell? ⟨L, 2, none⟩ = some (.map (some pm)) := BL1.out.cell 2
  have lk := LK.out _ (PT.out.later B1.out)
  unfold plV plC at lk
  dsimp only at lk
  cases q with
  | false =>
    go_upto_region 5 with fail
    obtain ⟨pb, hpb⟩ : ∃ p, w1.heap.size = p := ⟨_, rfl⟩
    have BZ : Hid (Below w.heap.size w (w1.alloc (.cells #[.int .i64 p1, .int .i64 p2, .int .i64 p3] 81))) := Lib.hid (B1.out.alloc B1.out.size _)
    have BR2 : Hid (Box (w1.alloc (.cells #[.int .i64 p1, .int .i64 p2, .int .i64 p3] 81)) rb #[.int .i64 0, .string ⟨#[]⟩, .string ⟨#[]⟩, .int .i64 0, .int .i64 0] 35) := Lib.hid (BR1.out.alloc _)
    have FIN := Lib.hid (BR2.out.setRow #[.int .i64 0, .string ⟨#[]⟩, .string ⟨#[]⟩, .int .i64 0, .int .i64 0])
    have BF := Lib.hid (below_row (g := rb) BZ.out (by have := HRB.out; omega) #[.int .i64 0, .string ⟨#[]⟩, .string ⟨#[]⟩, .int .i64 0, .int .i64 0])
    go_wp2_with (refine wpList_storeRow rfl rfl rfl rfl BR2.out rfl (by kernel_rfl) (by simp [Value.oneCell']) ?_)
    refine bodyPost_ret (results_cell_tmp Tryz.results57 rfl (req_row FIN.out rfl)) rfl ?_
    exact ⟨by rw [LE.out]; rfl, BF.out⟩
  | true =>
    go_upto_region 6 with fail
    refine code_forget (fun W => Hid (Box W w1.heap.size #[.int .i64 p1, .int .i64 p2, .int .i64 p3] 81) ∧ Hid (Below w1.heap.size w1 W)) ⟨Lib.hid (Box.new w1 _ _), Lib.hid ((Below.refl w1.heap.size w1).alloc (Nat.le_refl _) _)⟩ ?_
    obtain ⟨pb, hpb⟩ : ∃ p, w1.heap.size = p := ⟨_, rfl⟩
    have HPB : Hid (rb < pb) := Lib.hid (by have := BR1.out.lt; omega)
    rintro w2 ⟨BPB, hb2⟩
    rw [hpb] at BPB ⊢
    have B3 := Lib.hid (B1.out.trans (hb2.out.mono B1.out.size))
    have BRB := Lib.hid (BR1.out.later hb2.out)
    have G0 := G
    clear G
    have G := Lib.hid (G0.out.later B3.out)
    have BL0 := Lib.hid (BL1.out.later hb2.out)
    clear BL
    have BL := BL0
    clear hpb hb2 c2 lk BL0 BL1 BR1 B1 G0
    refine wp_region_last 9 (fun w' => DkM w' RD d g.D ∧ Box w' L (logC d g.n pm wm g.x.top) 66 ∧ Box w' pb #[.int .i64 p1, .int .i64 p2, .int .i64 p3] 81 ∧ Below w.heap.size w w' ∧ ∃ cs : Array Value, Box w' rb cs 35 ∧ cs.size = 5) (by kernel_rfl) (⟨G.out.dk.drew_, BL.out.drew, BPB.out.drew, B3.out.drew, _, BRB.out.drew, rfl⟩) (fun hHeld hClosed => ?_)
    refine wtk (i := 0) (v := ?_) rfl hClosed (Or.inl ⟨by rfl, ?_⟩) hHeld (fun hClosed => ?_)
    rotate_left
    · intro wv hSw; go_simp; all_goals (with_reducible rfl)
    (try simp only [List.getElem_toArray, List.getElem_cons_zero, put_at, List.set])
    refine wtk (i := 1) (v := ?_) rfl hClosed (Or.inl ⟨by rfl, ?_⟩) hHeld (fun hClosed => ?_)
    rotate_left
    · intro wv hSw; go_simp; all_goals (with_reducible rfl)
    (try simp only [List.getElem_toArray, List.getElem_cons_succ, List.getElem_cons_zero, put_at, List.set])
    refine wtk (i := 2) (v := ?_) rfl hClosed (Or.inl ⟨by rfl, ?_⟩) hHeld (fun hClosed => ?_)
    rotate_left
    · intro wv hSw; go_simp; all_goals (with_reducible rfl)
    (try simp only [List.getElem_toArray, List.getElem_cons_succ, List.getElem_cons_zero, put_at, List.set])
    refine wtk (i := 3) (v := ?_) rfl hClosed (Or.inl ⟨by rfl, ?_⟩) hHeld (fun hClosed => ?_)
    rotate_left
    · intro wv hSw; have c0 : wv.cell? ⟨L, 0, none⟩ = some (.pointer (some ⟨d, 0, none⟩)) := hSw.2.1.cell 0; go_simp; all_goals (with_reducible rfl)
    (try simp only [List.getElem_toArray, List.getElem_cons_succ, List.getElem_cons_zero, put_at, List.set])
    refine wtk (i := 4) (v := (plV ⟨p1, p2, p3⟩)) rfl hClosed (Or.inl ⟨by rfl, ?_⟩) hHeld (fun hClosed => ?_)
    · intro wv hSw; exact exec_load_box (by rfl) (by rfl) hSw.2.2.1 Tryz.underlying81 rfl (by kernel_rfl)
    (try simp only [List.getElem_toArray, List.getElem_cons_succ, List.getElem_cons_zero, put_at, List.set])
    refine wpAnyL_one (i := 5) rfl (by kernel_rfl) (by kernel_rfl) hClosed (fun KK hK => ?_)
    go_simp
    refine (RDA.out _ hHeld.1).mono ?_
    rintro e wx ⟨rfl, hwx⟩
    obtain ⟨z1, z2, z3, z4, z5, hz⟩ := hHeld
    go_wp2_with fail
    refine hK.out _ _ ?_ (fun hClosed hHeld => ?_)
    · exact ⟨z1.later hwx, z2.later hwx, z3.later hwx, z4.trans (hwx.mono z4.size), z5, hz.1.later hwx, hz.2⟩
    clear hK KK
    (first | simp only [List.getElem_toArray, List.getElem_cons_succ, List.getElem_cons_zero, put_at, List.set] | (try simp only [put_at, List.set]))
    refine wtk (i := 6) (v := ?_) rfl hClosed (Or.inl ⟨by rfl, ?_⟩) hHeld (fun hClosed => ?_)
    rotate_left
    · intro wv hSw; go_simp; all_goals (with_reducible rfl)
    (try simp only [List.getElem_toArray, List.getElem_cons_succ, List.getElem_cons_zero, put_at, List.set])
    refine wtk (i := 7) (v := ?_) rfl hClosed (Or.inl ⟨by rfl, ?_⟩) hHeld (fun hClosed => ?_)
    rotate_left
    · intro wv hSw; go_simp; all_goals (with_reducible rfl)
    (try simp only [List.getElem_toArray, List.getElem_cons_succ, List.getElem_cons_zero, put_at, List.set])
    refine wpAnyL_one (i := 8) rfl (by kernel_rfl) (by kernel_rfl) hClosed (fun KK hK => ?_)
    obtain ⟨z1, z2, z3, z4, z5, hz⟩ := hHeld
    refine step_store_row rfl rfl rfl rfl hz.1 (by rw [hz.2]; rfl) (by kernel_rfl) (by simp [reqL, Value.oneCell']) ?_
    have hnd : d ≠ rb ∧ L ≠ rb ∧ pb ≠ rb := ⟨fun e => HNR.out.1 (e ▸ HRd.out), fun e => HNR.out.2 (e ▸ HRL.out), by have := HPB.out; have := HRB.out; omega⟩
    have BZ := Lib.hid (hz.1.setRow (reqL ((rdL g.D.S ⟨p1, p2, p3⟩).getD rc0)).toArray)
    refine hK.out _ _ ?_ (fun hClosed hHeld => ?_)
    · exact ⟨z1.only ((Only.refl (fun k => k = rb) _).setRow (Or.inl rfl) _) (fun k hk e => HNR.out.1 (e ▸ hk)), z2.otherRow hnd.2.1 _, z3.otherRow hnd.2.2 _, below_row z4 (by have := HRB.out; omega) _, _, hz.1.setRow _, rfl⟩
    clear hK KK
    (first | simp only [List.getElem_toArray, List.getElem_cons_succ, List.getElem_cons_zero, put_at, List.set] | (try simp only [put_at, List.set]))
    refine wpAnyL_last rfl (by kernel_rfl) (by kernel_rfl) (fun KK hK => ?_)
    go_simp
    refine hK.out _ _ ?_
    (try simp only [put_at, List.set])
    go_wp2_with fail
    refine bodyPost_ret (results_cell_tmp Tryz.results57 rfl (req_row BZ.out rfl)) rfl ?_
    exact ⟨by have h9 := LE.out; simp only [if_true] at h9; rw [h9]; rfl, hHeld.2.2.2.1⟩
end Go.Proofs.YtimkgaokcldgkaaGreatDoor
/- Package spill: Pending of a log. -/
namespace Go.Proofs.YtimkgaokcldgkaaGreatDoor
open Go Go.RowKit Go.Maps
set_option linter.unusedVariables false
set_option linter.unusedSimpArgs false
set_option maxRecDepth 100000

theorem srtI_len (l : List Int) : (srtI l).length = l.length := by unfold srtI; rw [List.length_mergeSort]
theorem srtI_mem {l : List Int} {x : Int} : x ∈ srtI l ↔ x ∈ l := by unfold srtI; exact List.mem_mergeSort
theorem LgM.keys_ok {w : World} {RD RL : Nat → Prop} {d L : Nat} {g : Lg} (h : LgM w RD RL d L g) : ∀ id ∈ srtI (g.x.puts.map Prod.fst), okI id := fun id hid => by
  obtain ⟨pm, wm, hi, hmi⟩ := h.lx.ix
  obtain ⟨p, hp, rfl⟩ := List.mem_map.1 (srtI_mem.1 hid)
  exact hi.puts.kk p hp
end Go.Proofs.YtimkgaokcldgkaaGreatDoor
/- Package spill: room: where a record goes. -/
namespace Go.Proofs.YtimkgaokcldgkaaGreatDoor
open Go Go.RowKit Go.Maps
set_option linter.unusedVariables false
set_option linter.unusedSimpArgs false
set_option maxRecDepth 100000

theorem pl_row {w : World} {g : Nat} {cs : Array Value} (h : Box w g cs 81) (hs : cs.size = 3) : (loadVar 81 ⟨g, 0, none⟩).run Tryz.prog w = .ok (.agg cs) w :=
  run_loadVar_row w g 81 81 cs (0, 0) _ h Tryz.underlying81 rfl (by rw [hs]; kernel_rfl)
set_option maxHeartbeats 4000000 in
theorem room_at {w : World} {RD RL : Nat → Prop} {d L : Nat} {g : Lg} (h : LgM w RD RL d L g) (size : Nat) (hs : size ≤ 100000) (P : Pl) (ok : Bool) (hP : roomL g.D g.n size = (P, ok)) :
    Calls Tryz.prog 27 #[.pointer (some ⟨L, 0, none⟩), .int .i64 (size : Int)] w fun e w' => e = .returned (.tuple #[plV P, .bool ok]) ∧ Below w.heap.size w w' := by
  obtain ⟨pm, wm, hi, hmi⟩ := h.lx.ix
  obtain ⟨N, hN⟩ : ∃ N, g.D.S.length = N := ⟨_, rfl⟩
  obtain ⟨n, hn⟩ : ∃ n, g.n = n := ⟨_, rfl⟩
  have hN16 : N ≤ 16 := hN ▸ h.dk.cnt
  have SG := Lib.hid (fun (W : World) (hW : Below w.heap.size w W) => ksegs_at (h.dk.later hW) N hN)
  have BL := Lib.hid hi.box
  have G := Lib.hid h
  have HP : Hid ((if n < (N : Int) then (nowh, false) else match (segsL g.D).getLast?.bind (lastP g.D size) with | some p => (p, true) | none => freshP g.D n size) = (P, ok)) := Lib.hid (by rw [← hP, ← hn, ← hN]; rfl)
  have HLN : Hid ((segsL g.D).length = N) := Lib.hid (by unfold segsL; rw [List.length_map, hN])
  have HFR : Hid (freshP g.D n size = (⟨(followL (segsL g.D)).1, 0, size⟩, (followL (segsL g.D)).2 && decide ((N : Int) < n))) := Lib.hid (by unfold freshP; rw [hN])
  rw [hn] at BL
  clear hP hN hn hi hmi h
  go_enter Tryz.func27, Tryz.ntmps27
  go_upto_region 1 with fail
  refine code_forget (fun W => Hid (Box W w.heap.size #[.int .i64 0, .int .i64 0, .int .i64 0] 81) ∧ Hid (Below w.heap.size w W)) ⟨Lib.hid (Box.new w _ _), Lib.hid ((Below.refl w.heap.size w).alloc (Nat.le_refl _) _)⟩ ?_
  obtain ⟨rb, hrb⟩ : ∃ p, w.heap.size = p := ⟨_, rfl⟩
  have HRB := Lib.hid hrb
  rw [hrb]
  rintro w1 ⟨BR1, B1⟩
  rw [← HRB.out] at B1
  clear hrb
  have BL1 := Lib.hid (BL.out.later B1.out)
  have l0 : w1.cell? ⟨L, 0, none⟩ = some (.pointer (some ⟨d, 0, none⟩)) := BL1.out.cell 0
  have SG1 := Lib.hid (SG.out w1 B1.out)
  clear SG
  go_wp2_with fail
  refine SG1.out.mono ?_
  rintro e w2 ⟨a, c, rfl, ho, hb⟩
  have O2 := Lib.hid ho
  have BL2 := Lib.hid (BL1.out.later hb)
  have BR2 := Lib.hid (BR1.out.later hb)
  have B2 := Lib.hid (B1.out.trans (hb.mono B1.out.size))
  clear ho hb l0 SG1 BL1 BR1 B1
  have l1 : w2.cell? ⟨L, 1, none⟩ = some (.int .i64 n) := BL2.out.cell 1
  by_cases hbig : n < (N : Int)
  · have d1 : decide (n < (N : Int)) = true := decide_eq_true hbig
    have d1' : decide ((N : Int) > n) = true := d1
    have NW := G.out.now.later B2.out
    have n0 : w2.cell? ⟨0, 0, none⟩ = some (.int .i64 9223372036854775807) := NW 0 (by decide)
    have n1 : w2.cell? ⟨0, 1, none⟩ = some (.int .i64 9223372036854775807) := NW 1 (by decide)
    have n2 : w2.cell? ⟨0, 2, none⟩ = some (.int .i64 0) := NW 2 (by decide)
    have FIN := Lib.hid (BR2.out.setRow #[.int .i64 9223372036854775807, .int .i64 9223372036854775807, .int .i64 0])
    have BZ := Lib.hid (below_row (g := rb) B2.out (by have := HRB.out; omega) #[.int .i64 9223372036854775807, .int .i64 9223372036854775807, .int .i64 0])
    clear NW
    go_upto_region 3 with fail
    go_wp2_with (refine wpList_storeRow rfl rfl rfl rfl BR2.out rfl (by kernel_rfl) (by simp [Value.oneCell']) ?_)
    refine bodyPost_ret (results_cell_tmp Tryz.results27 rfl (pl_row FIN.out rfl)) rfl ?_
    have h9 := HP.out
    rw [if_pos hbig] at h9
    injection h9 with e1 e2
    subst e1 e2
    exact ⟨rfl, BZ.out⟩
  · have d1 : decide (n < (N : Int)) = false := decide_eq_false hbig
    have d1' : decide ((N : Int) > n) = false := d1
    have HP2 : Hid ((match (segsL g.D).getLast?.bind (lastP g.D size) with | some p => (p, true) | none => freshP g.D n size) = (P, ok)) := Lib.hid (by have h9 := HP.out; rw [if_neg hbig] at h9; exact h9)
    clear HP
    have FO := Lib.hid (fun (W : World) (hW : Below w2.heap.size w2 W) => following_at (segsL g.D) N c a W HLN.out (by omega) (rdC_of_own (O2.out.later hW) (by decide)) (fun v hv => okI_iff (G.out.dk.segs_ok v hv).1))
    obtain ⟨F, hF⟩ : ∃ F, followL (segsL g.D) = F := ⟨_, rfl⟩
    rw [hF] at FO HFR
    have HF := Lib.hid hF
    clear hF
    go_upto_if 29 with fail
    go_cut [] (fun wc => Hid (Below w2.heap.size w2 wc) ∧ Hid ((P, ok) = ((⟨F.1, 0, size⟩, F.2 && decide ((N : Int) < n)) : Pl × Bool)))
    case first =>
      by_cases h0 : N = 0
      · subst h0
        have HE : Hid ((P, ok) = ((⟨F.1, 0, size⟩, F.2 && decide ((0 : Int) < n)) : Pl × Bool)) := Lib.hid (by
          have e1 : segsL g.D = [] := List.eq_nil_of_length_eq_zero HLN.out
          have h9 := HP2.out
          rw [e1] at h9
          rw [← h9]
          exact HFR.out)
        go_wp2_with fail
        go_meet
        exact ⟨Lib.hid (Below.refl _ _), HE⟩
      · obtain ⟨k, rfl⟩ : ∃ k, N = k + 1 := ⟨N - 1, by omega⟩
        obtain ⟨v, hkv⟩ : ∃ v, (segsL g.D)[k]? = some v := ⟨_, List.getElem?_eq_getElem (by rw [HLN.out]; omega)⟩
        obtain ⟨g9, hg9, _, _⟩ := O2.out.some_ (by omega)
        subst hg9
        have ck := O2.out.cell (j := k) (u := .int .i64 v) (by unfold inL; rw [List.getElem?_map, hkv]; rfl)
        have d0 : decide (((k + 1 : Nat) : Int) > 0) = true := decide_eq_true (by omega)
        have d0n : decide (0 < k + 1) = true := decide_eq_true (by omega)
        have dw : IntKind.i64.wrap (((k + 1 : Nat) : Int) - 1) = (k : Int) := by rw [IntKind.wrap_i64]; omega
        have i0 : (0 : Int) ≤ (k : Int) := by omega
        have i1 : (k : Int) < ((k + 1 : Nat) : Int) := by omega
        obtain ⟨hvk, hv0⟩ := G.out.dk.segs_ok v (List.mem_of_getElem? hkv)
        have HLS : Hid ((segsL g.D).getLast? = some v) := Lib.hid (by rw [List.getLast?_eq_getElem?, HLN.out]; exact hkv)
        obtain ⟨M, hM⟩ : ∃ M, (gD g.D.S v).length = M := ⟨_, rfl⟩
        have hM2 := G.out.dk.seg v
        rw [hM] at hM2
        have HM := Lib.hid hM
        have BY := Lib.hid (G.out.dk.byt v)
        have RD2 := Lib.hid (kread_at (G.out.dk.later B2.out) v hvk M hM)
        have l0 : w2.cell? ⟨L, 0, none⟩ = some (.pointer (some ⟨d, 0, none⟩)) := BL2.out.cell 0
        clear hkv hvk hM
        go_wp2_with fail
        refine RD2.out.mono ?_
        rintro e w3 ⟨a3, c3, kk, rfl, ho, hb⟩
        obtain ⟨rd3, hp3⟩ := rdB_own ho HM.out
        have SC := Lib.hid (scan_at (gD g.D.S v) M a3 c3 w3 HM.out rd3 BY.out ho.cap_le (by omega) hp3)
        have B3 := Lib.hid hb
        clear RD2 ho hb rd3 hp3 ck
        go_wp2_with fail
        refine SC.out.mono ?_
        rintro e w4 ⟨rs, u, a4, c4, rfl, hsc, _, hu, _, hb4⟩
        have HU : Hid (u = usedL (gD g.D.S v)) := Lib.hid (scan_eq BY.out hsc).2
        have B4 := Lib.hid (B3.out.trans (hb4.mono B3.out.size))
        clear SC hsc hb4 B3
        have hw9 : IntKind.i64.wrap ((u : Int) + (size : Int)) = (u : Int) + (size : Int) := by rw [IntKind.wrap_i64]; omega
        by_cases hq : u = M ∧ u + size ≤ 2048
        · obtain ⟨hq1, hq2⟩ := hq
          subst hq1
          have e1 : ((u : Int) == (u : Int)) = true := beq_self_eq_true _
          have e2 : decide ((u : Int) + (size : Int) ≤ 2048) = true := decide_eq_true (by omega)
          have BR4 := Lib.hid (BR2.out.later B4.out)
          have FIN := Lib.hid (BR4.out.setRow #[.int .i64 v, .int .i64 (u : Int), .int .i64 (size : Int)])
          have BZ := Lib.hid (below_row (g := rb) (B2.out.trans (B4.out.mono B2.out.size)) (by have := HRB.out; omega) #[.int .i64 v, .int .i64 (u : Int), .int .i64 (size : Int)])
          have HE : Hid ((P, ok) = ((⟨v, (u : Int), (size : Int)⟩, true) : Pl × Bool)) := Lib.hid (by
            have h9 := HP2.out
            rw [HLS.out] at h9
            have h8 : lastP g.D size v = some ⟨v, (u : Int), (size : Int)⟩ := by
              unfold lastP
              rw [← HU.out, HM.out, if_pos ⟨rfl, hq2⟩]
            rw [← h9, Option.bind_some, h8])
          go_upto_region 9 with fail
          go_wp2_with (refine wpList_storeRow rfl rfl rfl rfl BR4.out rfl (by kernel_rfl) (by simp [Value.oneCell']) ?_)
          refine bodyPost_ret (results_cell_tmp Tryz.results27 rfl (pl_row FIN.out rfl)) rfl ?_
          have h9 := HE.out
          injection h9 with e1 e2
          subst e1 e2
          exact ⟨rfl, BZ.out⟩
        · have HE : Hid ((P, ok) = ((⟨F.1, 0, size⟩, F.2 && decide (((k + 1 : Nat) : Int) < n)) : Pl × Bool)) := Lib.hid (by
            have h9 := HP2.out
            rw [HLS.out] at h9
            have h8 : lastP g.D size v = none := by
              unfold lastP
              rw [← HU.out, HM.out, if_neg hq]
            rw [← h9, Option.bind_some, h8]
            exact HFR.out)
          by_cases hq1 : u = M
          · subst hq1
            have e1 : ((u : Int) == (u : Int)) = true := beq_self_eq_true _
            have hq2 : ¬ u + size ≤ 2048 := fun e => hq ⟨rfl, e⟩
            have e2 : decide ((u : Int) + (size : Int) ≤ 2048) = false := decide_eq_false (by omega)
            go_wp2_with fail
            go_meet
            exact ⟨B4, HE⟩
          · have e1 : ((u : Int) == (M : Int)) = false := beq_eq_false_iff_ne.2 (by omega)
            go_wp2_with fail
            go_meet
            exact ⟨B4, HE⟩
    case rest =>
      obtain ⟨hb3, HE⟩ := hcut
      have B5 := Lib.hid (B2.out.trans (hb3.out.mono B2.out.size))
      have BR5 := Lib.hid (BR2.out.later hb3.out)
      have BL5 := Lib.hid (BL2.out.later hb3.out)
      have l1 : wc.cell? ⟨L, 1, none⟩ = some (.int .i64 n) := BL5.out.cell 1
      have FO5 := Lib.hid (FO.out wc hb3.out)
      obtain ⟨f1, f2⟩ := F
      dsimp only at FO5 HE
      clear FO hb3
      go_wp2_with fail
      refine FO5.out.mono ?_
      rintro e w6 ⟨rfl, rfl⟩
      have HLR : Hid (L ≠ rb) := Lib.hid (box_other BL2.out BR2.out (by decide))
      obtain ⟨q, hq⟩ : ∃ q, decide ((N : Int) < n) = q := ⟨_, rfl⟩
      rw [hq] at HE
      cases f2 with
      | false =>
        go_upto_region 11 with fail
        refine wp_region_last 14 (fun w' => Box w' L (logC d n pm wm g.x.top) 66 ∧ Below w.heap.size w w' ∧ ∃ cs : Array Value, Box w' rb cs 81 ∧ cs.size = 3) (by kernel_rfl) (⟨BL5.out.drew, B5.out.drew, _, BR5.out.drew, rfl⟩) (fun hHeld hClosed => ?_)
        refine wtk (i := 0) (v := ?_) rfl hClosed (Or.inl ⟨by rfl, ?_⟩) hHeld (fun hClosed => ?_)
        rotate_left
        · intro wv hSw; go_simp; all_goals (with_reducible rfl)
        (try simp only [List.getElem_toArray, List.getElem_cons_zero, put_at, List.set])
        refine wtk (i := 1) (v := ?_) rfl hClosed (Or.inl ⟨by rfl, ?_⟩) hHeld (fun hClosed => ?_)
        rotate_left
        · intro wv hSw; go_simp; all_goals (with_reducible rfl)
        (try simp only [List.getElem_toArray, List.getElem_cons_succ, List.getElem_cons_zero, put_at, List.set])
        refine wtk (i := 2) (v := ?_) rfl hClosed (Or.inl ⟨by rfl, ?_⟩) hHeld (fun hClosed => ?_)
        rotate_left
        · intro wv hSw; go_simp; all_goals (with_reducible rfl)
        (try simp only [List.getElem_toArray, List.getElem_cons_succ, List.getElem_cons_zero, put_at, List.set])
        refine wtk (i := 3) (v := ?_) rfl hClosed (Or.inl ⟨by rfl, ?_⟩) hHeld (fun hClosed => ?_)
        rotate_left
        · intro wv hSw; go_simp; all_goals (with_reducible rfl)
        (try simp only [List.getElem_toArray, List.getElem_cons_succ, List.getElem_cons_zero, put_at, List.set])
        refine wtk (i := 4) (v := ?_) rfl hClosed (Or.inl ⟨by rfl, ?_⟩) hHeld (fun hClosed => ?_)
        rotate_left
        · intro wv hSw; go_simp; all_goals (with_reducible rfl)
        (try simp only [List.getElem_toArray, List.getElem_cons_succ, List.getElem_cons_zero, put_at, List.set])
        refine wtk (i := 5) (v := undef) rfl hClosed (Or.inr ⟨by rfl, rfl⟩) hHeld (fun hClosed => ?_)
        (try simp only [List.getElem_toArray, List.getElem_cons_succ, List.getElem_cons_zero, put_at, List.set])
        refine wtk (i := 6) (v := undef) rfl hClosed (Or.inr ⟨by rfl, rfl⟩) hHeld (fun hClosed => ?_)
        (try simp only [List.getElem_toArray, List.getElem_cons_succ, List.getElem_cons_zero, put_at, List.set])
        refine wtk (i := 7) (v := undef) rfl hClosed (Or.inr ⟨by rfl, rfl⟩) hHeld (fun hClosed => ?_)
        (try simp only [List.getElem_toArray, List.getElem_cons_succ, List.getElem_cons_zero, put_at, List.set])
        refine wtk (i := 8) (v := undef) rfl hClosed (Or.inr ⟨by rfl, rfl⟩) hHeld (fun hClosed => ?_)
        (try simp only [List.getElem_toArray, List.getElem_cons_succ, List.getElem_cons_zero, put_at, List.set])
        refine wtk (i := 9) (v := undef) rfl hClosed (Or.inr ⟨by rfl, rfl⟩) hHeld (fun hClosed => ?_)
        (try simp only [List.getElem_toArray, List.getElem_cons_succ, List.getElem_cons_zero, put_at, List.set])
        refine wtk (i := 10) (v := undef) rfl hClosed (Or.inr ⟨by rfl, rfl⟩) hHeld (fun hClosed => ?_)
        (try simp only [List.getElem_toArray, List.getElem_cons_succ, List.getElem_cons_zero, put_at, List.set])
        refine wtk (i := 11) (v := undef) rfl hClosed (Or.inr ⟨by rfl, rfl⟩) hHeld (fun hClosed => ?_)
        (try simp only [List.getElem_toArray, List.getElem_cons_succ, List.getElem_cons_zero, put_at, List.set])
        refine wtk (i := 12) (v := ?_) rfl hClosed (Or.inl ⟨by rfl, ?_⟩) hHeld (fun hClosed => ?_)
        rotate_left
        · intro wv hSw; go_simp; all_goals (with_reducible rfl)
        (try simp only [List.getElem_toArray, List.getElem_cons_succ, List.getElem_cons_zero, put_at, List.set])
        refine wpAnyL_one (i := 13) rfl (by kernel_rfl) (by kernel_rfl) hClosed (fun KK hK => ?_)
        obtain ⟨z2, z4, z5, hz⟩ := hHeld
        refine step_store_row rfl rfl rfl rfl hz.1 (by rw [hz.2]; rfl) (by kernel_rfl) (by simp [Value.oneCell']) ?_
        have BZ := Lib.hid (hz.1.setRow #[.int .i64 f1, .int .i64 0, .int .i64 (size : Int)])
        refine hK.out _ _ ?_ (fun hClosed hHeld => ?_)
        · exact ⟨z2.otherRow (HLR.out) _, below_row z4 (by have := HRB.out; omega) _, _, hz.1.setRow _, rfl⟩
        clear hK KK
        (first | simp only [List.getElem_toArray, List.getElem_cons_succ, List.getElem_cons_zero, put_at, List.set] | (try simp only [put_at, List.set]))
        refine wpAnyL_last rfl (by kernel_rfl) (by kernel_rfl) (fun KK hK => ?_)
        go_simp
        refine hK.out _ _ ?_
        (try simp only [put_at, List.set])
        go_wp2_with fail
        refine bodyPost_ret (results_cell_tmp Tryz.results27 rfl (pl_row BZ.out rfl)) rfl ?_
        have h9 := HE.out
        simp only [Bool.false_and, Bool.true_and] at h9
        injection h9 with e1 e2
        subst e1 e2
        exact ⟨rfl, hHeld.2.1⟩
      | true =>
        go_upto_region 11 with fail
        refine wp_region_last 14 (fun w' => Box w' L (logC d n pm wm g.x.top) 66 ∧ Below w.heap.size w w' ∧ ∃ cs : Array Value, Box w' rb cs 81 ∧ cs.size = 3) (by kernel_rfl) (⟨BL5.out.drew, B5.out.drew, _, BR5.out.drew, rfl⟩) (fun hHeld hClosed => ?_)
        refine wtk (i := 0) (v := ?_) rfl hClosed (Or.inl ⟨by rfl, ?_⟩) hHeld (fun hClosed => ?_)
        rotate_left
        · intro wv hSw; go_simp; all_goals (with_reducible rfl)
        (try simp only [List.getElem_toArray, List.getElem_cons_zero, put_at, List.set])
        refine wtk (i := 1) (v := ?_) rfl hClosed (Or.inl ⟨by rfl, ?_⟩) hHeld (fun hClosed => ?_)
        rotate_left
        · intro wv hSw; go_simp; all_goals (with_reducible rfl)
        (try simp only [List.getElem_toArray, List.getElem_cons_succ, List.getElem_cons_zero, put_at, List.set])
        refine wtk (i := 2) (v := ?_) rfl hClosed (Or.inl ⟨by rfl, ?_⟩) hHeld (fun hClosed => ?_)
        rotate_left
        · intro wv hSw; go_simp; all_goals (with_reducible rfl)
        (try simp only [List.getElem_toArray, List.getElem_cons_succ, List.getElem_cons_zero, put_at, List.set])
        refine wtk (i := 3) (v := ?_) rfl hClosed (Or.inl ⟨by rfl, ?_⟩) hHeld (fun hClosed => ?_)
        rotate_left
        · intro wv hSw; go_simp; all_goals (with_reducible rfl)
        (try simp only [List.getElem_toArray, List.getElem_cons_succ, List.getElem_cons_zero, put_at, List.set])
        refine wtk (i := 4) (v := ?_) rfl hClosed (Or.inl ⟨by rfl, ?_⟩) hHeld (fun hClosed => ?_)
        rotate_left
        · intro wv hSw; go_simp; all_goals (with_reducible rfl)
        (try simp only [List.getElem_toArray, List.getElem_cons_succ, List.getElem_cons_zero, put_at, List.set])
        refine wtk (i := 5) (v := ?_) rfl hClosed (Or.inl ⟨by rfl, ?_⟩) hHeld (fun hClosed => ?_)
        rotate_left
        · intro wv hSw; go_simp; all_goals (with_reducible rfl)
        (try simp only [List.getElem_toArray, List.getElem_cons_succ, List.getElem_cons_zero, put_at, List.set])
        refine wtk (i := 6) (v := ?_) rfl hClosed (Or.inl ⟨by rfl, ?_⟩) hHeld (fun hClosed => ?_)
        rotate_left
        · intro wv hSw; go_simp; all_goals (with_reducible rfl)
        (try simp only [List.getElem_toArray, List.getElem_cons_succ, List.getElem_cons_zero, put_at, List.set])
        refine wtk (i := 7) (v := ?_) rfl hClosed (Or.inl ⟨by rfl, ?_⟩) hHeld (fun hClosed => ?_)
        rotate_left
        · intro wv hSw; go_simp; all_goals (with_reducible rfl)
        (try simp only [List.getElem_toArray, List.getElem_cons_succ, List.getElem_cons_zero, put_at, List.set])
        refine wtk (i := 8) (v := ?_) rfl hClosed (Or.inl ⟨by rfl, ?_⟩) hHeld (fun hClosed => ?_)
        rotate_left
        · intro wv hSw; go_simp; all_goals (with_reducible rfl)
        (try simp only [List.getElem_toArray, List.getElem_cons_succ, List.getElem_cons_zero, put_at, List.set])
        refine wtk (i := 9) (v := ?_) rfl hClosed (Or.inl ⟨by rfl, ?_⟩) hHeld (fun hClosed => ?_)
        rotate_left
        · intro wv hSw; go_simp; all_goals (with_reducible rfl)
        (try simp only [List.getElem_toArray, List.getElem_cons_succ, List.getElem_cons_zero, put_at, List.set])
        refine wtk (i := 10) (v := ?_) rfl hClosed (Or.inl ⟨by rfl, ?_⟩) hHeld (fun hClosed => ?_)
        rotate_left
        · intro wv hSw; have l1 : wv.cell? ⟨L, 1, none⟩ = some (.int .i64 n) := hSw.1.cell 1; go_simp; all_goals (with_reducible rfl)
        (try simp only [List.getElem_toArray, List.getElem_cons_succ, List.getElem_cons_zero, put_at, List.set])
        refine wtk (i := 11) (v := ?_) rfl hClosed (Or.inl ⟨by rfl, ?_⟩) hHeld (fun hClosed => ?_)
        rotate_left
        · intro wv hSw; go_simp; all_goals (with_reducible rfl)
        (try simp only [List.getElem_toArray, List.getElem_cons_succ, List.getElem_cons_zero, put_at, List.set])
        refine wtk (i := 12) (v := ?_) rfl hClosed (Or.inl ⟨by rfl, ?_⟩) hHeld (fun hClosed => ?_)
        rotate_left
        · intro wv hSw; go_simp; all_goals (with_reducible rfl)
        (try simp only [List.getElem_toArray, List.getElem_cons_succ, List.getElem_cons_zero, put_at, List.set])
        refine wpAnyL_one (i := 13) rfl (by kernel_rfl) (by kernel_rfl) hClosed (fun KK hK => ?_)
        obtain ⟨z2, z4, z5, hz⟩ := hHeld
        refine step_store_row rfl rfl rfl rfl hz.1 (by rw [hz.2]; rfl) (by kernel_rfl) (by simp [Value.oneCell']) ?_
        have BZ := Lib.hid (hz.1.setRow #[.int .i64 f1, .int .i64 0, .int .i64 (size : Int)])
        refine hK.out _ _ ?_ (fun hClosed hHeld => ?_)
        · exact ⟨z2.otherRow (HLR.out) _, below_row z4 (by have := HRB.out; omega) _, _, hz.1.setRow _, rfl⟩
        clear hK KK
        (first | simp only [List.getElem_toArray, List.getElem_cons_succ, List.getElem_cons_zero, put_at, List.set] | (try simp only [put_at, List.set]))
        refine wpAnyL_last rfl (by kernel_rfl) (by kernel_rfl) (fun KK hK => ?_)
        go_simp
        refine hK.out _ _ ?_
        (try simp only [put_at, List.set])
        go_wp2_with fail
        refine bodyPost_ret (results_cell_tmp Tryz.results27 rfl (pl_row BZ.out rfl)) rfl ?_
        have h9 := HE.out
        simp only [Bool.false_and, Bool.true_and] at h9
        injection h9 with e1 e2
        subst e1 e2
        exact ⟨rfl, hHeld.2.1⟩
end Go.Proofs.YtimkgaokcldgkaaGreatDoor
/- Package spill: write of a log. Written by gen_write.py. -/
namespace Go.Proofs.YtimkgaokcldgkaaGreatDoor
open Go Go.RowKit Go.Maps
set_option linter.unusedVariables false
set_option linter.unusedSimpArgs false
set_option maxRecDepth 100000

theorem LgM.disk_cell {w : World} {RD RL : Nat → Prop} {d L : Nat} {g : Lg} (h : LgM w RD RL d L g) : w.cell? ⟨L, 0, none⟩ = some (.pointer (some ⟨d, 0, none⟩)) := by
  obtain ⟨pm, wm, hi, hmi⟩ := h.lx.ix
  exact hi.box.cell 0
theorem LgM.log_lt {w : World} {RD RL : Nat → Prop} {d L : Nat} {g : Lg} (h : LgM w RD RL d L g) : L < w.heap.size := by
  obtain ⟨pm, wm, hi, hmi⟩ := h.lx.ix
  exact hi.box.lt
set_option maxHeartbeats 2000000 in
theorem write_at {w : World} {RD RL : Nat → Prop} {d L : Nat} {g : Lg} (h : LgM w RD RL d L g) (p : Pl) (h0 : 0 ≤ p.seg) (h1 : okI p.seg) (b : List Int) (hb : Byts b) (hb0 : 0 < b.length) (m : Nat) (hm : b.length = m) (hm2 : m ≤ 100000) (ab : Option Addr) (cb : Nat) (hr : RdC w ab (u8L b)) (hnm : ∀ g off, ab = some ⟨g, off, none⟩ → ¬ RD g) :
    Calls Tryz.prog 29 #[.pointer (some ⟨L, 0, none⟩), plV p, .slice ab m cb] w fun e w' => e = .returned (.int .i64 (writeD g.D p.seg b).2) ∧ AftL RD RL d L w ⟨(writeD g.D p.seg b).1, g.n, g.x⟩ w' := by
  obtain ⟨E, hE⟩ : ∃ E, writeD g.D p.seg b = E := ⟨_, rfl⟩
  rw [hE]
  obtain ⟨A, hA⟩ : ∃ A, appD g.D p.seg b = A := ⟨_, rfl⟩
  have HE : Hid (E = if A.2 = 0 then syncD A.1 else A) := Lib.hid (by rw [← hE, ← hA]; rfl)
  have APP := Lib.hid (fun (W : World) (hW : Below w.heap.size w W) => kapp_at (h.dk.later hW) p.seg h0 h1 b hb hb0 m hm hm2 ab cb (hr.later hW) hnm)
  rw [hA] at APP
  have G := Lib.hid h
  obtain ⟨p1, p2, p3⟩ := p
  unfold plV plC
  dsimp only at APP ⊢
  clear hE hA h h0 h1 hb hb0 hm hr hnm
  go_enter Tryz.func29, Tryz.ntmps29
  go_upto_region 1 with fail
  refine code_forget (fun W => Hid (Box W w.heap.size #[.int .i64 p1, .int .i64 p2, .int .i64 p3] 81) ∧ Hid (Below w.heap.size w W)) ⟨Lib.hid (Box.new w _ _), Lib.hid ((Below.refl w.heap.size w).alloc (Nat.le_refl _) _)⟩ ?_
  obtain ⟨pb, hpb⟩ : ∃ p, w.heap.size = p := ⟨_, rfl⟩
  have HPB := Lib.hid hpb
  rw [hpb]
  rintro w1 ⟨BP, B2⟩
  rw [← HPB.out] at B2
  clear hpb
  have HNP : Hid (¬ (RD pb ∨ RL pb)) := Lib.hid (by
    have := HPB.out
    rintro (e | e)
    · have := G.out.dk.lt _ e; omega
    · have := G.out.lx.lt _ e; omega)
  have L0 : w1.drew.cell? ⟨L, 0, none⟩ = some (.pointer (some ⟨d, 0, none⟩)) := (G.out.later B2.out).drew.disk_cell
  obtain ⟨A1, A2⟩ := A
  dsimp only at APP HE
  have APP2 : Hid (∀ W, Below w.heap.size w W → Calls Tryz.prog 50 #[.pointer (some ⟨d, 0, none⟩), .int .i64 p1, .slice ab m cb] W fun e w' => e = .returned (.int .i64 A2) ∧ AftL RD RL d L W ⟨A1, g.n, g.x⟩ w') := Lib.hid (fun W hW => (APP.out W hW).mono (by
    rintro e w' ⟨rfl, ha⟩
    exact ⟨rfl, (G.out.later hW).disk ha⟩))
  clear APP
  have APP := APP2
  clear APP2
  refine wp_region_last 8 (fun w' => w'.cell? ⟨L, 0, none⟩ = some (.pointer (some ⟨d, 0, none⟩)) ∧ Box w' pb #[.int .i64 p1, .int .i64 p2, .int .i64 p3] 81) (by kernel_rfl) (⟨L0, BP.out.drew⟩) (fun hHeld hClosed => ?_)
  refine wtk (i := 0) (v := ?_) rfl hClosed (Or.inl ⟨by rfl, ?_⟩) hHeld (fun hClosed => ?_)
  rotate_left
  · intro wv hSw; go_simp; all_goals (with_reducible rfl)
  (try simp only [List.getElem_toArray, List.getElem_cons_zero, put_at, List.set])
  refine wtk (i := 1) (v := ?_) rfl hClosed (Or.inl ⟨by rfl, ?_⟩) hHeld (fun hClosed => ?_)
  rotate_left
  · intro wv hSw; go_simp; all_goals (with_reducible rfl)
  (try simp only [List.getElem_toArray, List.getElem_cons_succ, List.getElem_cons_zero, put_at, List.set])
  refine wtk (i := 2) (v := ?_) rfl hClosed (Or.inl ⟨by rfl, ?_⟩) hHeld (fun hClosed => ?_)
  rotate_left
  · intro wv hSw; go_simp; all_goals (with_reducible rfl)
  (try simp only [List.getElem_toArray, List.getElem_cons_succ, List.getElem_cons_zero, put_at, List.set])
  refine wtk (i := 3) (v := ?_) rfl hClosed (Or.inl ⟨by rfl, ?_⟩) hHeld (fun hClosed => ?_)
  rotate_left
  · intro wv hSw; have l0 := hSw.1; have q0 := hSw.2.cell 0; go_simp; all_goals (with_reducible rfl)
  (try simp only [List.getElem_toArray, List.getElem_cons_succ, List.getElem_cons_zero, put_at, List.set])
  refine wtk (i := 4) (v := ?_) rfl hClosed (Or.inl ⟨by rfl, ?_⟩) hHeld (fun hClosed => ?_)
  rotate_left
  · intro wv hSw; go_simp; all_goals (with_reducible rfl)
  (try simp only [List.getElem_toArray, List.getElem_cons_succ, List.getElem_cons_zero, put_at, List.set])
  refine wtk (i := 5) (v := ?_) rfl hClosed (Or.inl ⟨by rfl, ?_⟩) hHeld (fun hClosed => ?_)
  rotate_left
  · intro wv hSw; have l0 := hSw.1; have q0 := hSw.2.cell 0; go_simp; all_goals (with_reducible rfl)
  (try simp only [List.getElem_toArray, List.getElem_cons_succ, List.getElem_cons_zero, put_at, List.set])
  refine wtk (i := 6) (v := ?_) rfl hClosed (Or.inl ⟨by rfl, ?_⟩) hHeld (fun hClosed => ?_)
  rotate_left
  · intro wv hSw; go_simp; all_goals (with_reducible rfl)
  (try simp only [List.getElem_toArray, List.getElem_cons_succ, List.getElem_cons_zero, put_at, List.set])
  refine wpAnyL_one (i := 7) rfl (by kernel_rfl) (by kernel_rfl) hClosed (fun KK hK => ?_)
  go_simp
  refine (APP.out _ B2.out.drew).mono ?_
  rintro e wx ⟨rfl, hal⟩
  have A3 := Lib.hid hal
  go_wp2_with fail
  refine hK.out _ _ ?_ (fun hClosed hHeld => ?_)
  · (obtain ⟨RD', RL', k⟩ := hal; exact ⟨k.lg.disk_cell, hHeld.2.only k.only HNP.out⟩)
  clear hK KK
  (first | simp only [List.getElem_toArray, List.getElem_cons_succ, List.getElem_cons_zero, put_at, List.set] | (try simp only [put_at, List.set]))
  refine wpAnyL_last rfl (by kernel_rfl) (by kernel_rfl) (fun KK hK => ?_)
  go_simp
  refine hK.out _ _ ?_
  (try simp only [put_at, List.set])
  by_cases hz : A2 = 0
  · have dz : (A2 != 0) = false := by simp [hz]
    obtain ⟨RD', RL', k⟩ := A3.out
    have SY := Lib.hid (ksync_at k.lg.dk)
    have l0 := k.lg.disk_cell
    have FI := Lib.hid (fun w9 (ha : AftK RD' d wx (syncD A1).1 w9) => AftL.before B2.out.drew (AftL.trans k (k.lg.disk ha)))
    have HE2 : Hid (E = syncD A1) := Lib.hid (by rw [HE.out, if_pos hz])
    clear k A3 APP hHeld hClosed hz HE
    go_wp2_with fail
    refine SY.out.mono ?_
    rintro e w9 ⟨rfl, ha⟩
    have FI9 := Lib.hid (FI.out _ ha)
    clear ha FI SY l0
    go_wp2_with fail
    go_ret
    exact ⟨by rw [HE2.out]; rfl, by rw [HE2.out]; exact FI9.out⟩
  · have dz : (A2 != 0) = true := by simp [hz]
    have HE2 : Hid (E = (A1, A2)) := Lib.hid (by rw [HE.out, if_neg hz])
    clear APP hHeld hClosed hz HE
    go_wp2_with fail
    go_ret
    exact ⟨by rw [HE2.out]; rfl, by rw [HE2.out]; exact AftL.before B2.out.drew A3.out⟩
end Go.Proofs.YtimkgaokcldgkaaGreatDoor
/- Package spill: drop. -/
namespace Go.Proofs.YtimkgaokcldgkaaGreatDoor
open Go Go.RowKit Go.Maps
set_option linter.unusedVariables false
set_option linter.unusedSimpArgs false
set_option maxRecDepth 100000

theorem AftK.trans {w w1 w2 : World} {R R1 : Nat → Prop} {d : Nat} {D2 : Ds} (h : TurnR R w R1 w1) (k : AftK R1 d w1 D2 w2) : AftK R d w D2 w2 := by
  obtain ⟨R2, k1, k2⟩ := k
  exact ⟨R2, k1, h.trans k2⟩
structure DrpL (w : World) (R : Nat → Prop) (d : Nat) (F : Ds × Int) (l : List Int) (k : Nat) (Rk : Nat → Prop) (Dk : Ds) (wr : World) : Prop where
  dk : DkM wr Rk d Dk
  turn : TurnR R w Rk wr
  eq : dropsD Dk (l.drop k) = F
set_option maxHeartbeats 2000000 in
theorem drops_at {w : World} {R : Nat → Prop} {d : Nat} {D : Ds} (h : DkM w R d D) (l : List Int) (N c : Nat) (a : Option Addr) (hl : l.length = N) (hN : N ≤ 100000) (hr : RdC w a (inL l)) (hw : ∀ s ∈ l, okI s) (hnm : ∀ g off, a = some ⟨g, off, none⟩ → ¬ R g) :
    Calls Tryz.prog 49 #[.pointer (some ⟨d, 0, none⟩), .slice a N c] w fun e w' => e = .returned (.int .i64 (dropsD D l).2) ∧ AftK R d w (dropsD D l).1 w' := by
  obtain ⟨F, hF⟩ : ∃ F, dropsD D l = F := ⟨_, rfl⟩
  rw [hF]
  have HL := Lib.hid hl
  have HR := Lib.hid hr
  have HW := Lib.hid hw
  have HNM := Lib.hid hnm
  have ST : Hid (DrpL w R d F l 0 R D w) := Lib.hid ⟨h, TurnR.later (Below.refl _ _), hF⟩
  clear h hl hr hw hnm hF
  go_enter Tryz.func49, Tryz.ntmps49
  go_wp2_with fail
  go_loopw [10] (fun vi wr => ∃ (k : Nat) (Rk : Nat → Prop) (Dk : Ds), vi = .int .i64 (k : Int) ∧ k ≤ N ∧ Hid (DrpL w R d F l k Rk Dk wr)) (fun vi _ => N - (intV vi).toNat)
  case atStart => exact ⟨0, R, D, rfl, Nat.zero_le _, ST⟩
  case round =>
    clear ST
    obtain ⟨k, Rk, Dk, rfl, hk, HD⟩ := hrel
    by_cases hkN : k < N
    · have d1 : decide ((k : Int) < (N : Int)) = true := decide_eq_true (by omega)
      have d1n : decide (k < N) = true := decide_eq_true hkN
      obtain ⟨s, hs⟩ : ∃ s, l[k]? = some s := ⟨_, List.getElem?_eq_getElem (by rw [HL.out]; exact hkN)⟩
      have hok := HW.out s (List.mem_of_getElem? hs)
      obtain ⟨b9, o9, ha9, hc9⟩ := HR.out k (.int .i64 s) (by unfold inL; rw [List.getElem?_map, hs]; rfl)
      subst ha9
      have hlt := World.block_lt_of_cell? _ _ hc9
      have cs1 := (cell_blk (HD.out.turn.only.block _ hlt (HNM.out _ _ rfl)) (o9 + k)).trans hc9
      have ik0 : (0 : Int) ≤ (k : Int) := by omega
      have DR := Lib.hid (kdrop_at HD.out.dk s hok)
      have HEQ : Hid (F = if (dropD Dk s).2 = 0 then dropsD (dropD Dk s).1 (l.drop (k + 1)) else dropD Dk s) := Lib.hid (by
        rw [← HD.out.eq]
        obtain ⟨hlt9, hge⟩ := List.getElem?_eq_some_iff.1 hs
        rw [List.drop_eq_getElem_cons hlt9, hge]
        rfl)
      have TU := Lib.hid HD.out.turn
      obtain ⟨X, hX⟩ : ∃ X, dropD Dk s = X := ⟨_, rfl⟩
      rw [hX] at DR HEQ
      obtain ⟨D2, e2⟩ := X
      dsimp only at DR HEQ
      clear hs hok hc9 hlt hX
      go_wp2_with fail
      refine DR.out.mono ?_
      rintro e w2 ⟨rfl, ha⟩
      have HA := Lib.hid ha
      clear ha DR cs1
      by_cases hz : e2 = 0
      · have dz : (e2 != 0) = false := by simp [hz]
        obtain ⟨R2, hd2, ht2⟩ := HA.out
        have NEXT : Hid (DrpL w R d F l (k + 1) R2 D2 w2) := Lib.hid ⟨hd2, TU.out.trans ht2, by rw [HEQ.out, if_pos hz]⟩
        clear hd2 ht2 hz HEQ TU HD HA
        go_wp2_with fail
        go_roundw
        case rel => exact ⟨k + 1, R2, D2, by go_num, by omega, NEXT⟩
        case measure => simp [intV]; omega
      · have dz : (e2 != 0) = true := by simp [hz]
        have FIN : Hid (F = (D2, e2) ∧ AftK R d w D2 w2) := Lib.hid ⟨by rw [HEQ.out, if_neg hz], AftK.trans TU.out HA.out⟩
        clear hz HEQ TU HD HA
        go_wp2_with fail
        go_ret
        obtain ⟨rfl, h9⟩ := FIN.out
        exact ⟨rfl, h9⟩
    · have d1 : decide ((k : Int) < (N : Int)) = false := decide_eq_false (by omega)
      have hkk : k = N := by omega
      subst hkk
      have FIN : Hid (F = (Dk, 0) ∧ AftK R d w Dk wr) := Lib.hid ⟨by
        rw [← HD.out.eq, List.drop_of_length_le (by rw [HL.out]; exact Nat.le_refl _)]
        rfl, ⟨Rk, HD.out.dk, HD.out.turn⟩⟩
      clear HD
      go_wp2_with fail
      go_ret
      obtain ⟨rfl, h9⟩ := FIN.out
      exact ⟨rfl, h9⟩
end Go.Proofs.YtimkgaokcldgkaaGreatDoor
/- Sorting records: elements, and an exchange of two ranges. Written by gen_swr.py. -/
namespace Go.Proofs.YtimkgaokcldgkaaGreatDoor
open Go Go.RowKit Go.Sort
set_option linter.unusedVariables false
set_option linter.unusedSimpArgs false
set_option maxRecDepth 100000

/-- A record in memory: its place, and where its bytes lie. -/
structure En where
  p : Pl
  a : Option Addr
  n : Nat
  c : Nat
  b : List Int
instance : Inhabited En := ⟨⟨pl0, none, 0, 0, []⟩⟩
def enE (e : En) : List Value := [.int .i64 e.p.seg, .int .i64 e.p.off, .int .i64 e.p.size, .slice e.a e.n e.c]
theorem enE_len (e : En) : (enE e).length = 4 := rfl
theorem enE_one (e : En) : ∀ v ∈ enE e, v.oneCell' = true := by
  intro v hv
  simp [enE] at hv
  rcases hv with rfl | rfl | rfl | rfl <;> rfl
def EnM (w : World) (B g n c : Nat) (d : Array En) : Prop := Own w B 152 4 (some ⟨g, 0, none⟩) n c (flE enE d.toList)
/-- Only the row has turned. -/
structure SrW (w0 : World) (B g n c : Nat) (d : Array En) (w : World) : Prop where
  own : EnM w B g n c d
  only : Only (fun k => k = g) w0 w
  len : d.size = n
theorem SrW.later {w0 w w' : World} {B g n c : Nat} {d : Array En} (h : SrW w0 B g n c d w) (hb : Below w.heap.size w w') : SrW w0 B g n c d w' := ⟨h.own.later hb, h.only.later hb, h.len⟩
theorem only_grown {w0 w w' : World} {g : Nat} (h : Only (fun k => k = g) w0 w) (hg : w.grownBy w' (some g)) : Only (fun k => k = g) w0 w' :=
  h.trans (Only.of_grown (R := fun k => k = g) hg (fun k e => (Option.some.inj e).symm)) (fun x hx => Or.inl hx)
theorem SrW.drew {w0 w : World} {B g n c : Nat} {d : Array En} (h : SrW w0 B g n c d w) : SrW w0 B g n c d w.drew := h.later (Below.refl _ w).drew
/-- Two elements have been exchanged. -/
theorem SrW.swp {w0 w w' : World} {B g n c i j : Nat} {d : Array En} (h : SrW w0 B g n c d w) (hi : i < n) (hj : j < n) {x y : En} (hx : d.toList[i]? = some x) (hy : d.toList[j]? = some y)
    (ho : Own w' B 152 4 (some ⟨g, 0, none⟩) n c (flE enE ((d.toList.set i y).set j x))) (h1 : Only (fun k => k = g) w0 w') : SrW w0 B g n c (swp d i j) w' :=
  ⟨by unfold EnM; rw [swp_list d (by rw [h.len]; exact hi) (by rw [h.len]; exact hj) hx hy]; exact ho, h1, by rw [size_swp]; exact h.len⟩
theorem get_some (d : Array En) {i : Nat} (h : i < d.size) : d.toList[i]? = some d[i]! := by
  rw [getElem!_pos d i h]
  simp [h]
set_option maxHeartbeats 2000000 in
theorem swapRange_at (x y m : Nat) {w0 w : World} {B g n c : Nat} {d : Array En} (h : SrW w0 B g n c d w) (hx : x + m ≤ n) (hy : y + m ≤ n) (hn : n ≤ 100000000) (fv : Value) :
    Calls Tryz.prog 140 #[.slice (some ⟨g, 0, none⟩) n c, .int .i64 (x : Int), .int .i64 (y : Int), .int .i64 (m : Int), fv] w fun e w' => e = .returned (.tuple #[]) ∧ SrW w0 B g n c (swr x y m d 0) w' := by
  obtain ⟨F, hF⟩ : ∃ F, swr x y m d 0 = F := ⟨_, rfl⟩
  rw [hF]
  have mixed : Tryz.prog.follows .mixedOrders = true := by kernel_rfl
  have ST : Hid (SrW w0 B g n c d w ∧ swr x y m d 0 = F) := Lib.hid ⟨h, hF⟩
  clear h hF
  go_enter Tryz.func140, Tryz.ntmps140
  go_wp2_with fail
  go_loopw [10] (fun vi wr => ∃ (i : Nat) (d : Array En), vi = .int .i64 (i : Int) ∧ i ≤ m ∧ Hid (SrW w0 B g n c d wr ∧ swr x y m d i = F)) (fun vi _ => m - (intV vi).toNat)
  case atStart => exact ⟨0, d, rfl, Nat.zero_le _, ST⟩
  case round =>
    clear ST d
    obtain ⟨i, d, rfl, hi, HS⟩ := hrel
    by_cases him : i < m
    · have d1 : decide ((i : Int) < (m : Int)) = true := decide_eq_true (by omega)
      have d1n : decide (i < m) = true := decide_eq_true him
      have hxi : x + i < n := by omega
      have hyi : y + i < n := by omega
      obtain ⟨X, hX⟩ : ∃ e, d[x + i]! = e := ⟨_, rfl⟩
      obtain ⟨Y, hY⟩ : ∃ e, d[y + i]! = e := ⟨_, rfl⟩
      have HX : Hid (d.toList[x + i]? = some X) := Lib.hid (by rw [← hX]; exact get_some d (by rw [HS.out.1.len]; exact hxi))
      have HY : Hid (d.toList[y + i]? = some Y) := Lib.hid (by rw [← hY]; exact get_some d (by rw [HS.out.1.len]; exact hyi))
      have HDL : Hid (d.toList.length = n) := Lib.hid (by rw [Array.length_toList]; exact HS.out.1.len)
      have O0 := Lib.hid HS.out.1.own
      have w1x : IntKind.i64.wrap ((x : Int) + (i : Int)) = ((x + i : Nat) : Int) := by rw [IntKind.wrap_i64]; omega
      have w1y : IntKind.i64.wrap ((y : Int) + (i : Int)) = ((y + i : Nat) : Int) := by rw [IntKind.wrap_i64]; omega
      have nx : (0 : Int) ≤ ((x + i : Nat) : Int) := by omega
      have nx2 : ((x + i : Nat) : Int) < (n : Int) := by omega
      have ny : (0 : Int) ≤ ((y + i : Nat) : Int) := by omega
      have ny2 : ((y + i : Nat) : Int) < (n : Int) := by omega
      obtain ⟨xi, hxi'⟩ : ∃ k, x + i = k := ⟨_, rfl⟩
      obtain ⟨yi, hyi'⟩ : ∃ k, y + i = k := ⟨_, rfl⟩
      rw [hxi'] at HX w1x nx nx2 hxi
      rw [hyi'] at HY w1y ny ny2 hyi
      have NEXT : Hid (∀ w', Own w' B 152 4 (some ⟨g, 0, none⟩) n c (flE enE ((d.toList.set xi Y).set yi X)) → Only (fun k => k = g) w0 w' → SrW w0 B g n c (swp d xi yi) w' ∧ swr x y m (swp d xi yi) (i + 1) = F) := Lib.hid (fun w' k1 k2 => ⟨HS.out.1.swp hxi hyi HX.out HY.out k1 k2, by rw [← HS.out.2, swr_go him, hxi', hyi']⟩)
      have ON := Lib.hid HS.out.1.only
      clear hX hY hxi' hyi'
      go_upto_region 3 with fail
      refine wp_region_lastM [21, 22, 23] (fun w' => Own w' B 152 4 (some ⟨g, 0, none⟩) n c (flE enE d.toList)) (by kernel_rfl) (O0.out.drew) (fun hHeld hClosed => ?_)
      refine wpAnyM_takeP (i := 0) (v := ?_) rfl (by kernel_rfl) (by kernel_rfl) (by kernel_rfl) (fun _ _ _ h => h) (by kernel_rfl) hClosed (Or.inl ⟨by rfl, ?_⟩) (fun _ => hHeld) (fun hClosed => ?_)
      rotate_left
      · intro wv hSw; go_simp; all_goals (with_reducible rfl)
      (try simp only [List.getElem_toArray, List.getElem_cons_zero, put_at, List.set])
      refine wpAnyM_takeP (i := 1) (v := ?_) rfl (by kernel_rfl) (by kernel_rfl) (by kernel_rfl) (fun _ _ _ h => h) (by kernel_rfl) hClosed (Or.inl ⟨by rfl, ?_⟩) (fun _ => hHeld) (fun hClosed => ?_)
      rotate_left
      · intro wv hSw; go_simp; all_goals (with_reducible rfl)
      (try simp only [List.getElem_toArray, List.getElem_cons_succ, List.getElem_cons_zero, put_at, List.set])
      refine wpAnyM_takeP (i := 2) (v := ?_) rfl (by kernel_rfl) (by kernel_rfl) (by kernel_rfl) (fun _ _ _ h => h) (by kernel_rfl) hClosed (Or.inl ⟨by rfl, ?_⟩) (fun _ => hHeld) (fun hClosed => ?_)
      rotate_left
      · intro wv hSw; go_simp; all_goals (with_reducible rfl)
      (try simp only [List.getElem_toArray, List.getElem_cons_succ, List.getElem_cons_zero, put_at, List.set])
      refine wpAnyM_takeP (i := 3) (v := ?_) rfl (by kernel_rfl) (by kernel_rfl) (by kernel_rfl) (fun _ _ _ h => h) (by kernel_rfl) hClosed (Or.inl ⟨by rfl, ?_⟩) (fun _ => hHeld) (fun hClosed => ?_)
      rotate_left
      · intro wv hSw; go_simp; all_goals (with_reducible rfl)
      (try simp only [List.getElem_toArray, List.getElem_cons_succ, List.getElem_cons_zero, put_at, List.set])
      refine wpAnyM_takeP (i := 4) (v := ?_) rfl (by kernel_rfl) (by kernel_rfl) (by kernel_rfl) (fun _ _ _ h => h) (by kernel_rfl) hClosed (Or.inl ⟨by rfl, ?_⟩) (fun _ => hHeld) (fun hClosed => ?_)
      rotate_left
      · intro wv hSw; go_simp; all_goals (with_reducible rfl)
      (try simp only [List.getElem_toArray, List.getElem_cons_succ, List.getElem_cons_zero, put_at, List.set])
      refine wpAnyM_takeP (i := 5) (v := ?_) rfl (by kernel_rfl) (by kernel_rfl) (by kernel_rfl) (fun _ _ _ h => h) (by kernel_rfl) hClosed (Or.inl ⟨by rfl, ?_⟩) (fun _ => hHeld) (fun hClosed => ?_)
      rotate_left
      · intro wv hSw; go_simp; all_goals (with_reducible rfl)
      (try simp only [List.getElem_toArray, List.getElem_cons_succ, List.getElem_cons_zero, put_at, List.set])
      refine wpAnyM_takeP (i := 6) (v := ?_) rfl (by kernel_rfl) (by kernel_rfl) (by kernel_rfl) (fun _ _ _ h => h) (by kernel_rfl) hClosed (Or.inl ⟨by rfl, ?_⟩) (fun _ => hHeld) (fun hClosed => ?_)
      rotate_left
      · intro wv hSw; go_simp; all_goals (with_reducible rfl)
      (try simp only [List.getElem_toArray, List.getElem_cons_succ, List.getElem_cons_zero, put_at, List.set])
      refine wpAnyM_takeP (i := 7) (v := ?_) rfl (by kernel_rfl) (by kernel_rfl) (by kernel_rfl) (fun _ _ _ h => h) (by kernel_rfl) hClosed (Or.inl ⟨by rfl, ?_⟩) (fun _ => hHeld) (fun hClosed => ?_)
      rotate_left
      · intro wv hSw; go_simp; all_goals (with_reducible rfl)
      (try simp only [List.getElem_toArray, List.getElem_cons_succ, List.getElem_cons_zero, put_at, List.set])
      refine wpAnyM_takeP (i := 8) (v := ?_) rfl (by kernel_rfl) (by kernel_rfl) (by kernel_rfl) (fun _ _ _ h => h) (by kernel_rfl) hClosed (Or.inl ⟨by rfl, ?_⟩) (fun _ => hHeld) (fun hClosed => ?_)
      rotate_left
      · intro wv hSw; go_simp; all_goals (with_reducible rfl)
      (try simp only [List.getElem_toArray, List.getElem_cons_succ, List.getElem_cons_zero, put_at, List.set])
      refine wpAnyM_takeP (i := 9) (v := ?_) rfl (by kernel_rfl) (by kernel_rfl) (by kernel_rfl) (fun _ _ _ h => h) (by kernel_rfl) hClosed (Or.inl ⟨by rfl, ?_⟩) (fun _ => hHeld) (fun hClosed => ?_)
      rotate_left
      · intro wv hSw; go_simp; all_goals (with_reducible rfl)
      (try simp only [List.getElem_toArray, List.getElem_cons_succ, List.getElem_cons_zero, put_at, List.set])
      refine wpAnyM_takeP (i := 10) (v := ?_) rfl (by kernel_rfl) (by kernel_rfl) (by kernel_rfl) (fun _ _ _ h => h) (by kernel_rfl) hClosed (Or.inl ⟨by rfl, ?_⟩) (fun _ => hHeld) (fun hClosed => ?_)
      rotate_left
      · intro wv hSw; go_simp; all_goals (with_reducible rfl)
      (try simp only [List.getElem_toArray, List.getElem_cons_succ, List.getElem_cons_zero, put_at, List.set])
      refine wpAnyM_takeP (i := 11) (v := ?_) rfl (by kernel_rfl) (by kernel_rfl) (by kernel_rfl) (fun _ _ _ h => h) (by kernel_rfl) hClosed (Or.inl ⟨by rfl, ?_⟩) (fun _ => hHeld) (fun hClosed => ?_)
      rotate_left
      · intro wv hSw; go_simp; all_goals (with_reducible rfl)
      (try simp only [List.getElem_toArray, List.getElem_cons_succ, List.getElem_cons_zero, put_at, List.set])
      refine wpAnyM_takeP (i := 12) (v := ?_) rfl (by kernel_rfl) (by kernel_rfl) (by kernel_rfl) (fun _ _ _ h => h) (by kernel_rfl) hClosed (Or.inl ⟨by rfl, ?_⟩) (fun _ => hHeld) (fun hClosed => ?_)
      rotate_left
      · intro wv hSw; go_simp; all_goals (with_reducible rfl)
      (try simp only [List.getElem_toArray, List.getElem_cons_succ, List.getElem_cons_zero, put_at, List.set])
      refine wpAnyM_take (i := 13) (v := .agg (enE Y).toArray) rfl (by kernel_rfl) (by kernel_rfl) (by kernel_rfl) (by kernel_rfl) (fun _ _ _ h => h) (by kernel_rfl) hClosed (Or.inl ⟨by rfl, ?_⟩) (fun _ => hHeld) (fun hClosed => ?_)
      · intro wv hSw; exact exec_load_at (by rfl) (by rfl) (own_elem enE_len hSw HY.out) Tryz.underlying152 rfl (by kernel_rfl)
      (try simp only [List.getElem_toArray, List.getElem_cons_succ, List.getElem_cons_zero, put_at, List.set])
      refine wpAnyM_takeP (i := 14) (v := ?_) rfl (by kernel_rfl) (by kernel_rfl) (by kernel_rfl) (fun _ _ _ h => h) (by kernel_rfl) hClosed (Or.inl ⟨by rfl, ?_⟩) (fun _ => hHeld) (fun hClosed => ?_)
      rotate_left
      · intro wv hSw; go_simp; all_goals (with_reducible rfl)
      (try simp only [List.getElem_toArray, List.getElem_cons_succ, List.getElem_cons_zero, put_at, List.set])
      refine wpAnyM_takeP (i := 15) (v := ?_) rfl (by kernel_rfl) (by kernel_rfl) (by kernel_rfl) (fun _ _ _ h => h) (by kernel_rfl) hClosed (Or.inl ⟨by rfl, ?_⟩) (fun _ => hHeld) (fun hClosed => ?_)
      rotate_left
      · intro wv hSw; go_simp; all_goals (with_reducible rfl)
      (try simp only [List.getElem_toArray, List.getElem_cons_succ, List.getElem_cons_zero, put_at, List.set])
      refine wpAnyM_takeP (i := 16) (v := ?_) rfl (by kernel_rfl) (by kernel_rfl) (by kernel_rfl) (fun _ _ _ h => h) (by kernel_rfl) hClosed (Or.inl ⟨by rfl, ?_⟩) (fun _ => hHeld) (fun hClosed => ?_)
      rotate_left
      · intro wv hSw; go_simp; all_goals (with_reducible rfl)
      (try simp only [List.getElem_toArray, List.getElem_cons_succ, List.getElem_cons_zero, put_at, List.set])
      refine wpAnyM_takeP (i := 17) (v := ?_) rfl (by kernel_rfl) (by kernel_rfl) (by kernel_rfl) (fun _ _ _ h => h) (by kernel_rfl) hClosed (Or.inl ⟨by rfl, ?_⟩) (fun _ => hHeld) (fun hClosed => ?_)
      rotate_left
      · intro wv hSw; go_simp; all_goals (with_reducible rfl)
      (try simp only [List.getElem_toArray, List.getElem_cons_succ, List.getElem_cons_zero, put_at, List.set])
      refine wpAnyM_takeP (i := 18) (v := ?_) rfl (by kernel_rfl) (by kernel_rfl) (by kernel_rfl) (fun _ _ _ h => h) (by kernel_rfl) hClosed (Or.inl ⟨by rfl, ?_⟩) (fun _ => hHeld) (fun hClosed => ?_)
      rotate_left
      · intro wv hSw; go_simp; all_goals (with_reducible rfl)
      (try simp only [List.getElem_toArray, List.getElem_cons_succ, List.getElem_cons_zero, put_at, List.set])
      refine wpAnyM_take (i := 19) (v := .agg (enE X).toArray) rfl (by kernel_rfl) (by kernel_rfl) (by kernel_rfl) (by kernel_rfl) (fun _ _ _ h => h) (by kernel_rfl) hClosed (Or.inl ⟨by rfl, ?_⟩) (fun _ => hHeld) (fun hClosed => ?_)
      · intro wv hSw; exact exec_load_at (by rfl) (by rfl) (own_elem enE_len hSw HX.out) Tryz.underlying152 rfl (by kernel_rfl)
      (try simp only [List.getElem_toArray, List.getElem_cons_succ, List.getElem_cons_zero, put_at, List.set])
      refine wpAnyM_takeP (i := 20) (v := ?_) rfl (by kernel_rfl) (by kernel_rfl) (by kernel_rfl) (fun _ _ _ h => h) (by kernel_rfl) hClosed (Or.inl ⟨by rfl, ?_⟩) (fun _ => hHeld) (fun hClosed => ?_)
      rotate_left
      · intro wv hSw; go_simp; all_goals (with_reducible rfl)
      (try simp only [List.getElem_toArray, List.getElem_cons_succ, List.getElem_cons_zero, put_at, List.set])
      refine wpAnyM_end (i := 21) rfl (by kernel_rfl) (by kernel_rfl) hClosed (fun KK hK => ?_)
      refine step_storeE rfl rfl rfl rfl enE_len enE_one (by kernel_rfl) hHeld HDL.out hxi ?_
      intro w1 p1 p2 p3
      refine hK.out _ _ (fun hClosed => ?_)
      clear hK KK
      (try simp only [List.getElem_toArray, List.getElem_cons_succ, List.getElem_cons_zero, put_at, List.set])
      refine wpAnyM_end (i := 22) rfl (by kernel_rfl) (by kernel_rfl) hClosed (fun KK hK => ?_)
      go_simp
      refine hK.out _ _ (fun hClosed => ?_)
      clear hK KK
      (try simp only [List.getElem_toArray, List.getElem_cons_succ, List.getElem_cons_zero, put_at, List.set])
      refine wpAnyM_end (i := 23) rfl (by kernel_rfl) (by kernel_rfl) hClosed (fun KK hK => ?_)
      refine step_storeE rfl rfl rfl rfl enE_len enE_one (by kernel_rfl) p1 (by rw [List.length_set]; exact HDL.out) hyi ?_
      intro w2 p4 p5 p6
      refine hK.out _ _ (fun hClosed => ?_)
      clear hK KK
      (try simp only [List.getElem_toArray, List.getElem_cons_succ, List.getElem_cons_zero, put_at, List.set])
      refine wpAnyM_over (by kernel_rfl) ?_
      have NX := Lib.hid (NEXT.out _ p4 (only_grown (only_grown (ON.out.later (Below.refl _ _).drew) p2) p5))
      clear p1 p2 p3 p4 p5 p6 hClosed hHeld
      go_wp2_with fail
      go_roundw
      case rel => exact ⟨i + 1, _, by go_num, by omega, NX⟩
      case measure => simp [intV]; omega
    · have d1 : decide ((i : Int) < (m : Int)) = false := decide_eq_false (by omega)
      have FIN : Hid (SrW w0 B g n c F wr) := Lib.hid (by
        have h9 := HS.out.2
        rw [swr_end him] at h9
        exact h9 ▸ HS.out.1)
      go_wp2_with fail
      go_end0
      exact ⟨rfl, FIN.out⟩
end Go.Proofs.YtimkgaokcldgkaaGreatDoor
/- Sorting records: rotation. -/
namespace Go.Proofs.YtimkgaokcldgkaaGreatDoor
open Go Go.RowKit Go.Sort
set_option linter.unusedVariables false
set_option linter.unusedSimpArgs false
set_option maxRecDepth 100000

set_option maxHeartbeats 2000000 in
theorem rotate_at (a m b : Nat) {w0 w : World} {B g n c : Nat} {d : Array En} (h : SrW w0 B g n c d w) (h1 : a < m) (h2 : m < b) (h3 : b ≤ n) (hn : n ≤ 100000000) (fv : Value) :
    Calls Tryz.prog 138 #[.slice (some ⟨g, 0, none⟩) n c, .int .i64 (a : Int), .int .i64 (m : Int), .int .i64 (b : Int), fv] w fun e w' => e = .returned (.tuple #[]) ∧ SrW w0 B g n c (rot m d (m - a) (b - m)) w' := by
  obtain ⟨F, hF⟩ : ∃ F, rot m d (m - a) (b - m) = F := ⟨_, rfl⟩
  rw [hF]
  obtain ⟨i0, hi0⟩ : ∃ i, m - a = i := ⟨_, rfl⟩
  obtain ⟨j0, hj0⟩ : ∃ j, b - m = j := ⟨_, rfl⟩
  rw [hi0, hj0] at hF
  have e1 : IntKind.i64.wrap ((m : Int) - (a : Int)) = (i0 : Int) := by rw [IntKind.wrap_i64]; omega
  have e2 : IntKind.i64.wrap ((b : Int) - (m : Int)) = (j0 : Int) := by rw [IntKind.wrap_i64]; omega
  have B0 : 0 < i0 ∧ i0 ≤ m ∧ 0 < j0 ∧ m + j0 ≤ n := by omega
  have ST : Hid (SrW w0 B g n c d w ∧ rot m d i0 j0 = F) := Lib.hid ⟨h, hF⟩
  clear h hF hi0 hj0
  go_enter Tryz.func138, Tryz.ntmps138
  go_wp2_with fail
  go_loopw [10, 11] (fun vi vj wr => ∃ (i j : Nat) (d : Array En), vi = .int .i64 (i : Int) ∧ vj = .int .i64 (j : Int) ∧ 0 < i ∧ i ≤ m ∧ 0 < j ∧ m + j ≤ n ∧ Hid (SrW w0 B g n c d wr ∧ rot m d i j = F)) (fun vi vj _ => (intV vi).toNat + (intV vj).toNat)
  case atStart => exact ⟨i0, j0, d, rfl, rfl, B0.1, B0.2.1, B0.2.2.1, B0.2.2.2, ST⟩
  case round =>
    clear ST d e1 e2 B0
    obtain ⟨i, j, d, rfl, rfl, hi0, hi1, hj0, hj1, HS⟩ := hrel
    have wmi : IntKind.i64.wrap ((m : Int) - (i : Int)) = ((m - i : Nat) : Int) := by rw [IntKind.wrap_i64]; omega
    by_cases hij : i = j
    · subst hij
      have dn : ((i : Int) != (i : Int)) = false := by simp
      have SW := Lib.hid (swapRange_at (m - i) m i HS.out.1 (by omega) (by omega) hn fv)
      have HE : Hid (F = swr (m - i) m i d 0) := Lib.hid (by rw [← HS.out.2, rot_eq rfl])
      clear HS
      go_wp2_with fail
      refine SW.out.mono ?_
      rintro e w2 ⟨rfl, hw2⟩
      have W2 := Lib.hid hw2
      clear hw2 SW
      go_wp2_with fail
      go_end0
      exact ⟨rfl, by rw [HE.out]; exact W2.out⟩
    · have dn : ((i : Int) != (j : Int)) = true := by simp; omega
      by_cases hgt : j < i
      · have dg : decide ((i : Int) > (j : Int)) = true := decide_eq_true (by omega)
        have dg2 : decide ((j : Int) < (i : Int)) = true := decide_eq_true (by omega)
        have dg3 : decide (j < i) = true := decide_eq_true hgt
        have wij : IntKind.i64.wrap ((i : Int) - (j : Int)) = ((i - j : Nat) : Int) := by rw [IntKind.wrap_i64]; omega
        have SW := Lib.hid (swapRange_at (m - i) m j HS.out.1 (by omega) (by omega) hn fv)
        have HE : Hid (rot m (swr (m - i) m j d 0) (i - j) j = F) := Lib.hid (by rw [← HS.out.2, rot_gt hgt hj0])
        clear HS
        go_wp2_with fail
        refine SW.out.mono ?_
        rintro e w2 ⟨rfl, hw2⟩
        have W2 := Lib.hid (And.intro hw2 HE.out)
        clear hw2 SW HE
        go_wp2_with fail
        go_roundw
        case rel => exact ⟨i - j, j, _, rfl, rfl, by omega, by omega, hj0, hj1, W2⟩
        case measure => simp [intV]; omega
      · have hlt : i < j := by omega
        have dg : decide ((i : Int) > (j : Int)) = false := decide_eq_false (by omega)
        have dg2 : decide ((j : Int) < (i : Int)) = false := decide_eq_false (by omega)
        have dg3 : decide (j < i) = false := decide_eq_false hgt
        have wij : IntKind.i64.wrap ((j : Int) - (i : Int)) = ((j - i : Nat) : Int) := by rw [IntKind.wrap_i64]; omega
        have wmj : IntKind.i64.wrap ((m : Int) + (j : Int)) = (m : Int) + (j : Int) := by rw [IntKind.wrap_i64]; omega
        have wmk : IntKind.i64.wrap ((m : Int) + (j : Int) - (i : Int)) = ((m + j - i : Nat) : Int) := by rw [IntKind.wrap_i64]; omega
        have SW := Lib.hid (swapRange_at (m - i) (m + j - i) i HS.out.1 (by omega) (by omega) hn fv)
        have HE : Hid (rot m (swr (m - i) (m + j - i) i d 0) i (j - i) = F) := Lib.hid (by rw [← HS.out.2, rot_lt hlt hi0])
        clear HS
        go_wp2_with fail
        refine SW.out.mono ?_
        rintro e w2 ⟨rfl, hw2⟩
        have W2 := Lib.hid (And.intro hw2 HE.out)
        clear hw2 SW HE
        go_wp2_with fail
        go_roundw
        case rel => exact ⟨i, j - i, _, rfl, rfl, hi0, hi1, by omega, by omega, W2⟩
        case measure => simp [intV]; omega
end Go.Proofs.YtimkgaokcldgkaaGreatDoor
/- Sorting records: their order. Written by gen_srcmp.py. -/
namespace Go.Proofs.YtimkgaokcldgkaaGreatDoor
open Go Go.RowKit
set_option linter.unusedVariables false
set_option linter.unusedSimpArgs false
set_option maxRecDepth 100000

def cmpE (a b : En) : Int := cmpPl a.p b.p
def ltE (a b : En) : Bool := decide (cmpE a b < 0)
theorem cmpE_at (a b : En) (w : World) : Calls Tryz.prog 108 #[.agg (enE a).toArray, .agg (enE b).toArray] w fun e w' => e = .returned (.int .i64 (cmpE a b)) ∧ Below w.heap.size w w' := by
  obtain ⟨x, hx⟩ : ∃ x, cmpI a.p.seg b.p.seg = x := ⟨_, rfl⟩
  obtain ⟨y, hy⟩ : ∃ y, cmpI a.p.off b.p.off = y := ⟨_, rfl⟩
  have HV : Hid (cmpE a b = orI x y) := Lib.hid (by rw [← hx, ← hy]; rfl)
  obtain ⟨v, hv⟩ : ∃ v, cmpE a b = v := ⟨_, rfl⟩
  rw [hv] at HV ⊢
  have C1 := Lib.hid (fun W => compare_at a.p.seg b.p.seg W)
  have C2 := Lib.hid (fun W => compare_at a.p.off b.p.off W)
  rw [hx] at C1
  rw [hy] at C2
  have CO := Lib.hid (fun g W h0 h1 => or_at x y g W h0 h1)
  clear hx hy hv
  obtain ⟨⟨x1, x2, x3⟩, xa, xn, xc, xb⟩ := a
  obtain ⟨⟨y1, y2, y3⟩, ya, yn, yc, yb⟩ := b
  dsimp only at *
  show Calls Tryz.prog 108 #[.agg #[.int .i64 x1, .int .i64 x2, .int .i64 x3, .slice xa xn xc], .agg #[.int .i64 y1, .int .i64 y2, .int .i64 y3, .slice ya yn yc]] w _
  go_enter Tryz.func108, Tryz.ntmps108
  go_upto_region 1 with fail
  refine code_forget (fun W => Hid (Box W w.heap.size #[.int .i64 x1, .int .i64 x2, .int .i64 x3, .slice xa xn xc] 152) ∧ Hid (Box W (w.heap.size + 1) #[.int .i64 y1, .int .i64 y2, .int .i64 y3, .slice ya yn yc] 152) ∧ Hid (Below w.heap.size w W)) ⟨Lib.hid ((Box.new w _ _).alloc _), Lib.hid (by have h9 := Box.new (w.alloc (.cells #[.int .i64 x1, .int .i64 x2, .int .i64 x3, .slice xa xn xc] 152)) #[.int .i64 y1, .int .i64 y2, .int .i64 y3, .slice ya yn yc] 152; rw [World.size_alloc] at h9; exact h9), Lib.hid (((Below.refl w.heap.size w).alloc (Nat.le_refl _) _).alloc (by simp) _)⟩ ?_
  obtain ⟨A, hA⟩ : ∃ A, w.heap.size = A := ⟨_, rfl⟩
  have HA := Lib.hid hA
  obtain ⟨G, hG⟩ : ∃ G, A + 1 = G := ⟨_, rfl⟩
  rw [hA, hG]
  rintro w1 ⟨BX, BY, BB⟩
  rw [← HA.out] at BB
  clear hA hG
  refine wp_region_last 16 (fun w' => Box w' A #[.int .i64 x1, .int .i64 x2, .int .i64 x3, .slice xa xn xc] 152 ∧ Box w' G #[.int .i64 y1, .int .i64 y2, .int .i64 y3, .slice ya yn yc] 152 ∧ Below w.heap.size w w') (by kernel_rfl) (⟨BX.out.drew, BY.out.drew, BB.out.drew⟩) (fun hHeld hClosed => ?_)
  refine wtk (i := 0) (v := ?_) rfl hClosed (Or.inl ⟨by rfl, ?_⟩) hHeld (fun hClosed => ?_)
  rotate_left
  · intro wv hSw; go_simp; all_goals (with_reducible rfl)
  (try simp only [List.getElem_toArray, List.getElem_cons_zero, put_at, List.set])
  refine wtk (i := 1) (v := ?_) rfl hClosed (Or.inl ⟨by rfl, ?_⟩) hHeld (fun hClosed => ?_)
  rotate_left
  · intro wv hSw; go_simp; all_goals (with_reducible rfl)
  (try simp only [List.getElem_toArray, List.getElem_cons_succ, List.getElem_cons_zero, put_at, List.set])
  refine wtk (i := 2) (v := ?_) rfl hClosed (Or.inl ⟨by rfl, ?_⟩) hHeld (fun hClosed => ?_)
  rotate_left
  · intro wv hSw; have a0 := hSw.1.cell 0; have a1 := hSw.1.cell 1; have b0 := hSw.2.1.cell 0; have b1 := hSw.2.1.cell 1; go_simp; all_goals (with_reducible rfl)
  (try simp only [List.getElem_toArray, List.getElem_cons_succ, List.getElem_cons_zero, put_at, List.set])
  refine wtk (i := 3) (v := ?_) rfl hClosed (Or.inl ⟨by rfl, ?_⟩) hHeld (fun hClosed => ?_)
  rotate_left
  · intro wv hSw; go_simp; all_goals (with_reducible rfl)
  (try simp only [List.getElem_toArray, List.getElem_cons_succ, List.getElem_cons_zero, put_at, List.set])
  refine wtk (i := 4) (v := ?_) rfl hClosed (Or.inl ⟨by rfl, ?_⟩) hHeld (fun hClosed => ?_)
  rotate_left
  · intro wv hSw; go_simp; all_goals (with_reducible rfl)
  (try simp only [List.getElem_toArray, List.getElem_cons_succ, List.getElem_cons_zero, put_at, List.set])
  refine wtk (i := 5) (v := ?_) rfl hClosed (Or.inl ⟨by rfl, ?_⟩) hHeld (fun hClosed => ?_)
  rotate_left
  · intro wv hSw; have a0 := hSw.1.cell 0; have a1 := hSw.1.cell 1; have b0 := hSw.2.1.cell 0; have b1 := hSw.2.1.cell 1; go_simp; all_goals (with_reducible rfl)
  (try simp only [List.getElem_toArray, List.getElem_cons_succ, List.getElem_cons_zero, put_at, List.set])
  refine wtk (i := 7) (v := ?_) rfl hClosed (Or.inl ⟨by rfl, ?_⟩) hHeld (fun hClosed => ?_)
  rotate_left
  · intro wv hSw; go_simp; all_goals (with_reducible rfl)
  (try simp only [List.getElem_toArray, List.getElem_cons_succ, List.getElem_cons_zero, put_at, List.set])
  refine wtk (i := 8) (v := ?_) rfl hClosed (Or.inl ⟨by rfl, ?_⟩) hHeld (fun hClosed => ?_)
  rotate_left
  · intro wv hSw; go_simp; all_goals (with_reducible rfl)
  (try simp only [List.getElem_toArray, List.getElem_cons_succ, List.getElem_cons_zero, put_at, List.set])
  refine wtk (i := 9) (v := ?_) rfl hClosed (Or.inl ⟨by rfl, ?_⟩) hHeld (fun hClosed => ?_)
  rotate_left
  · intro wv hSw; have a0 := hSw.1.cell 0; have a1 := hSw.1.cell 1; have b0 := hSw.2.1.cell 0; have b1 := hSw.2.1.cell 1; go_simp; all_goals (with_reducible rfl)
  (try simp only [List.getElem_toArray, List.getElem_cons_succ, List.getElem_cons_zero, put_at, List.set])
  refine wtk (i := 10) (v := ?_) rfl hClosed (Or.inl ⟨by rfl, ?_⟩) hHeld (fun hClosed => ?_)
  rotate_left
  · intro wv hSw; go_simp; all_goals (with_reducible rfl)
  (try simp only [List.getElem_toArray, List.getElem_cons_succ, List.getElem_cons_zero, put_at, List.set])
  refine wtk (i := 11) (v := ?_) rfl hClosed (Or.inl ⟨by rfl, ?_⟩) hHeld (fun hClosed => ?_)
  rotate_left
  · intro wv hSw; go_simp; all_goals (with_reducible rfl)
  (try simp only [List.getElem_toArray, List.getElem_cons_succ, List.getElem_cons_zero, put_at, List.set])
  refine wtk (i := 12) (v := ?_) rfl hClosed (Or.inl ⟨by rfl, ?_⟩) hHeld (fun hClosed => ?_)
  rotate_left
  · intro wv hSw; have a0 := hSw.1.cell 0; have a1 := hSw.1.cell 1; have b0 := hSw.2.1.cell 0; have b1 := hSw.2.1.cell 1; go_simp; all_goals (with_reducible rfl)
  (try simp only [List.getElem_toArray, List.getElem_cons_succ, List.getElem_cons_zero, put_at, List.set])
  refine wpAnyL_one (i := 6) rfl (by kernel_rfl) (by kernel_rfl) hClosed (fun KK hK => ?_)
  go_simp
  refine (C1.out _).mono ?_
  rintro e wq ⟨rfl, rfl⟩
  go_wp2_with fail
  refine hK.out _ _ ?_ (fun hClosed hHeld => ?_)
  · exact hHeld
  clear hK KK
  (first | simp only [List.getElem_toArray, List.getElem_cons_succ, List.getElem_cons_zero, put_at, List.set] | (try simp only [put_at, List.set]))
  refine wpAnyL_one (i := 13) rfl (by kernel_rfl) (by kernel_rfl) hClosed (fun KK hK => ?_)
  go_simp
  refine (C2.out _).mono ?_
  rintro e wq ⟨rfl, rfl⟩
  go_wp2_with fail
  refine hK.out _ _ ?_ (fun hClosed hHeld => ?_)
  · exact hHeld
  clear hK KK
  (first | simp only [List.getElem_toArray, List.getElem_cons_succ, List.getElem_cons_zero, put_at, List.set] | (try simp only [put_at, List.set]))
  refine wpAnyL_one (i := 14) rfl (by kernel_rfl) (by kernel_rfl) hClosed (fun KK hK => ?_)
  go_simp
  refine hK.out _ _ ?_ (fun hClosed hHeld => ?_)
  · exact ⟨hHeld.1.alloc _, hHeld.2.1.alloc _, hHeld.2.2.alloc hHeld.2.2.size _⟩
  clear hK KK
  (first | simp only [List.getElem_toArray, List.getElem_cons_succ, List.getElem_cons_zero, put_at, List.set] | (try simp only [put_at, List.set]))
  refine wpAnyL_one (i := 15) rfl (by kernel_rfl) (by kernel_rfl) hClosed (fun KK hK => ?_)
  go_simp
  refine (CO.out _ _ (by simp [World.cell?_alloc_new]) (by simp [World.cell?_alloc_new])).mono ?_
  rintro e wq ⟨rfl, rfl⟩
  go_wp2_with fail
  refine hK.out _ _ ?_ (fun hClosed hHeld => ?_)
  · exact hHeld
  clear hK KK
  (first | simp only [List.getElem_toArray, List.getElem_cons_succ, List.getElem_cons_zero, put_at, List.set] | (try simp only [put_at, List.set]))
  refine wpAnyL_last rfl (by kernel_rfl) (by kernel_rfl) (fun KK hK => ?_)
  go_simp
  refine hK.out _ _ ?_
  (try simp only [put_at, List.set])
  go_wp2
  go_ret
  exact ⟨by rw [HV.out]; rfl, hHeld.2.2⟩
end Go.Proofs.YtimkgaokcldgkaaGreatDoor
/- Sorting records: by insertion. Written by gen_srins.py. -/
namespace Go.Proofs.YtimkgaokcldgkaaGreatDoor
open Go Go.RowKit Go.Sort
set_option linter.unusedVariables false
set_option linter.unusedSimpArgs false
set_option maxRecDepth 100000

theorem insI_go {a j : Nat} {d : Array En} (h : a < j + 1) (hl : ltE d[j + 1]! d[j]! = true) : insInner ltE a (j + 1) d = insInner ltE a j (swp d (j + 1) j) := by
  show (if (j + 1 > a && ltE d[j + 1]! d[j]!) = true then _ else _) = _
  rw [hl, if_pos (by simp; omega)]
theorem insI_stop {a j : Nat} {d : Array En} (h : ¬ a < j + 1 ∨ ltE d[j + 1]! d[j]! = false) : insInner ltE a (j + 1) d = d := by
  show (if (j + 1 > a && ltE d[j + 1]! d[j]!) = true then _ else _) = _
  rw [if_neg]
  rcases h with h | h
  · simp; omega
  · rw [h]; simp
theorem insI_at {a : Nat} {d : Array En} : ∀ {j : Nat}, ¬ a < j → insInner ltE a j d = d
  | 0, _ => rfl
  | j + 1, h => insI_stop (Or.inl h)
theorem insO_go {a b i : Nat} {d : Array En} (h : i < b) : insOuter ltE a b i d = insOuter ltE a b (i + 1) (insInner ltE a i d) := by rw [insOuter, if_pos h]
theorem insO_end {a b i : Nat} {d : Array En} (h : ¬ i < b) : insOuter ltE a b i d = d := by rw [insOuter, if_neg h]
set_option maxHeartbeats 4000000 in
theorem ins_at (a b : Nat) {w0 w : World} {B g n c : Nat} {d : Array En} (h : SrW w0 B g n c d w) (hab : a ≤ b) (hb : b ≤ n) (hn : n ≤ 100000000) :
    Calls Tryz.prog 131 #[.slice (some ⟨g, 0, none⟩) n c, .int .i64 (a : Int), .int .i64 (b : Int), .func (.func 108) #[] #[]] w fun e w' => e = .returned (.tuple #[]) ∧ SrW w0 B g n c (insertionSort ltE d a b) w' := by
  obtain ⟨F, hF⟩ : ∃ F, insertionSort ltE d a b = F := ⟨_, rfl⟩
  rw [hF]
  have ST : Hid (SrW w0 B g n c d w ∧ insOuter ltE a b (a + 1) d = F) := Lib.hid ⟨h, hF⟩
  have ENT : ∀ args w, (callFunc 108 args).run Tryz.prog w = .ok (.enter 108 args) w := enters_of Tryz.func108 (by kernel_rfl) rfl
  clear h hF
  go_enter Tryz.func131, Tryz.ntmps131
  go_wp2_with fail
  go_loopw [8] (fun vi wr => ∃ (i : Nat) (d : Array En), vi = .int .i64 (i : Int) ∧ a < i ∧ i ≤ b + 1 ∧ Hid (SrW w0 B g n c d wr ∧ insOuter ltE a b i d = F)) (fun vi _ => b + 1 - (intV vi).toNat)
  case atStart => exact ⟨a + 1, d, by go_num, by omega, by omega, ST⟩
  case round =>
    clear ST d
    obtain ⟨i, d, rfl, hai, hib, HS⟩ := hrel
    by_cases hlt : i < b
    · have d1 : decide ((i : Int) < (b : Int)) = true := decide_eq_true (by omega)
      have d1n : decide (i < b) = true := decide_eq_true hlt
      have ST : Hid (SrW w0 B g n c d wr ∧ insOuter ltE a b (i + 1) (insInner ltE a i d) = F) := Lib.hid ⟨HS.out.1, by rw [← insO_go hlt]; exact HS.out.2⟩
      clear HS
      go_wp2_with fail
      go_loopw [9] (fun vj wr => ∃ (j : Nat) (d : Array En), vj = .int .i64 (j : Int) ∧ j ≤ i ∧ Hid (SrW w0 B g n c d wr ∧ insOuter ltE a b (i + 1) (insInner ltE a j d) = F)) (fun vj _ => (intV vj).toNat)
      case atStart => exact ⟨i, d, rfl, Nat.le_refl _, ST⟩
      case round =>
        clear ST d
        obtain ⟨j, d, rfl, hji, HS⟩ := hrel
        have ST := Lib.hid HS.out.1
        by_cases hja : a < j
        · obtain ⟨k, rfl⟩ : ∃ k, j = k + 1 := ⟨j - 1, by omega⟩
          have da : decide (((k + 1 : Nat) : Int) > (a : Int)) = true := decide_eq_true (by omega)
          have da2 : decide ((a : Int) < ((k + 1 : Nat) : Int)) = true := decide_eq_true (by omega)
          have da3 : decide (a < k + 1) = true := decide_eq_true hja
          have wk : IntKind.i64.wrap (((k + 1 : Nat) : Int) - 1) = (k : Int) := by rw [IntKind.wrap_i64]; omega
          have j0 : (0 : Int) ≤ ((k + 1 : Nat) : Int) := by omega
          have j1 : ((k + 1 : Nat) : Int) < (n : Int) := by omega
          have k0 : (0 : Int) ≤ (k : Int) := by omega
          have k1 : (k : Int) < (n : Int) := by omega
          obtain ⟨X, hX⟩ : ∃ e, d[k + 1]! = e := ⟨_, rfl⟩
          obtain ⟨Y, hY⟩ : ∃ e, d[k]! = e := ⟨_, rfl⟩
          have HX : Hid (d.toList[k + 1]? = some X) := Lib.hid (by rw [← hX]; exact get_some d (by rw [ST.out.len]; omega))
          have HY : Hid (d.toList[k]? = some Y) := Lib.hid (by rw [← hY]; exact get_some d (by rw [ST.out.len]; omega))
          have HDL : Hid (d.toList.length = n) := Lib.hid (by rw [Array.length_toList]; exact ST.out.len)
          obtain ⟨v, hv⟩ : ∃ v, cmpE X Y = v := ⟨_, rfl⟩
          have HV := Lib.hid hv
          have NEXT : Hid (v < 0 → insOuter ltE a b (i + 1) (insInner ltE a k (swp d (k + 1) k)) = F) := Lib.hid (fun hv0 => by rw [← HS.out.2, insI_go hja (by rw [hX, hY]; unfold ltE; rw [hv]; exact decide_eq_true hv0)])
          have OUT : Hid (¬ v < 0 → insOuter ltE a b (i + 1) d = F) := Lib.hid (fun hv0 => by rw [← HS.out.2, insI_stop (Or.inr (by rw [hX, hY]; unfold ltE; rw [hv]; exact decide_eq_false hv0))])
          have LN : Hid (∀ w', Own w' B 152 4 (some ⟨g, 0, none⟩) n c (flE enE ((d.toList.set (k + 1) Y).set k X)) → Only (fun k => k = g) w0 w' → SrW w0 B g n c (swp d (k + 1) k) w') := Lib.hid (fun w' q1 q2 => ST.out.swp (by omega) (by omega) HX.out HY.out q1 q2)
          obtain ⟨jj, hjj⟩ : ∃ jj, k + 1 = jj := ⟨_, rfl⟩
          rw [hjj] at da da2 da3 wk j0 j1 HX NEXT LN hji ⊢
          have HJJ := Lib.hid hjj
          have hjn : jj < n := by omega
          have hkn : k < n := by omega
          clear hX hY HS hv hjj hja
          go_upto_region 4 with fail
          refine wp_region_last 16 (fun w' => SrW w0 B g n c d w') (by kernel_rfl) (ST.out.drew) (fun hHeld hClosed => ?_)
          refine wtk (i := 0) (v := ?_) rfl hClosed (Or.inl ⟨by rfl, ?_⟩) hHeld (fun hClosed => ?_)
          rotate_left
          · intro wv hSw; go_simp; all_goals (with_reducible rfl)
          (try simp only [List.getElem_toArray, List.getElem_cons_zero, put_at, List.set])
          refine wtk (i := 1) (v := ?_) rfl hClosed (Or.inl ⟨by rfl, ?_⟩) hHeld (fun hClosed => ?_)
          rotate_left
          · intro wv hSw; go_simp; all_goals (with_reducible rfl)
          (try simp only [List.getElem_toArray, List.getElem_cons_succ, List.getElem_cons_zero, put_at, List.set])
          refine wtk (i := 2) (v := ?_) rfl hClosed (Or.inl ⟨by rfl, ?_⟩) hHeld (fun hClosed => ?_)
          rotate_left
          · intro wv hSw; go_simp; all_goals (with_reducible rfl)
          (try simp only [List.getElem_toArray, List.getElem_cons_succ, List.getElem_cons_zero, put_at, List.set])
          refine wtk (i := 3) (v := ?_) rfl hClosed (Or.inl ⟨by rfl, ?_⟩) hHeld (fun hClosed => ?_)
          rotate_left
          · intro wv hSw; go_simp; all_goals (with_reducible rfl)
          (try simp only [List.getElem_toArray, List.getElem_cons_succ, List.getElem_cons_zero, put_at, List.set])
          refine wtk (i := 4) (v := ?_) rfl hClosed (Or.inl ⟨by rfl, ?_⟩) hHeld (fun hClosed => ?_)
          rotate_left
          · intro wv hSw; go_simp; all_goals (with_reducible rfl)
          (try simp only [List.getElem_toArray, List.getElem_cons_succ, List.getElem_cons_zero, put_at, List.set])
          refine wtk (i := 5) (v := ?_) rfl hClosed (Or.inl ⟨by rfl, ?_⟩) hHeld (fun hClosed => ?_)
          rotate_left
          · intro wv hSw; go_simp; all_goals (with_reducible rfl)
          (try simp only [List.getElem_toArray, List.getElem_cons_succ, List.getElem_cons_zero, put_at, List.set])
          refine wtk (i := 6) (v := ?_) rfl hClosed (Or.inl ⟨by rfl, ?_⟩) hHeld (fun hClosed => ?_)
          rotate_left
          · intro wv hSw; go_simp; all_goals (with_reducible rfl)
          (try simp only [List.getElem_toArray, List.getElem_cons_succ, List.getElem_cons_zero, put_at, List.set])
          refine wtk (i := 7) (v := ?_) rfl hClosed (Or.inl ⟨by rfl, ?_⟩) hHeld (fun hClosed => ?_)
          rotate_left
          · intro wv hSw; go_simp; all_goals (with_reducible rfl)
          (try simp only [List.getElem_toArray, List.getElem_cons_succ, List.getElem_cons_zero, put_at, List.set])
          refine wtk (i := 8) (v := .agg (enE X).toArray) rfl hClosed (Or.inl ⟨by rfl, ?_⟩) hHeld (fun hClosed => ?_)
          · intro wv hSw; exact exec_load_at (by rfl) (by rfl) (own_elem enE_len hSw.own HX.out) Tryz.underlying152 rfl (by kernel_rfl)
          (try simp only [List.getElem_toArray, List.getElem_cons_succ, List.getElem_cons_zero, put_at, List.set])
          refine wtk (i := 9) (v := ?_) rfl hClosed (Or.inl ⟨by rfl, ?_⟩) hHeld (fun hClosed => ?_)
          rotate_left
          · intro wv hSw; go_simp; all_goals (with_reducible rfl)
          (try simp only [List.getElem_toArray, List.getElem_cons_succ, List.getElem_cons_zero, put_at, List.set])
          refine wtk (i := 10) (v := ?_) rfl hClosed (Or.inl ⟨by rfl, ?_⟩) hHeld (fun hClosed => ?_)
          rotate_left
          · intro wv hSw; go_simp; all_goals (with_reducible rfl)
          (try simp only [List.getElem_toArray, List.getElem_cons_succ, List.getElem_cons_zero, put_at, List.set])
          refine wtk (i := 11) (v := ?_) rfl hClosed (Or.inl ⟨by rfl, ?_⟩) hHeld (fun hClosed => ?_)
          rotate_left
          · intro wv hSw; go_simp; all_goals (with_reducible rfl)
          (try simp only [List.getElem_toArray, List.getElem_cons_succ, List.getElem_cons_zero, put_at, List.set])
          refine wtk (i := 12) (v := ?_) rfl hClosed (Or.inl ⟨by rfl, ?_⟩) hHeld (fun hClosed => ?_)
          rotate_left
          · intro wv hSw; go_simp; all_goals (with_reducible rfl)
          (try simp only [List.getElem_toArray, List.getElem_cons_succ, List.getElem_cons_zero, put_at, List.set])
          refine wtk (i := 13) (v := .agg (enE Y).toArray) rfl hClosed (Or.inl ⟨by rfl, ?_⟩) hHeld (fun hClosed => ?_)
          · intro wv hSw; exact exec_load_at (by rfl) (by rfl) (own_elem enE_len hSw.own HY.out) Tryz.underlying152 rfl (by kernel_rfl)
          (try simp only [List.getElem_toArray, List.getElem_cons_succ, List.getElem_cons_zero, put_at, List.set])
          refine wpAnyL_one (i := 14) rfl (by kernel_rfl) (by kernel_rfl) hClosed (fun KK hK => ?_)
          go_simp
          refine (cmpE_at X Y _).mono ?_
          rintro e wq ⟨rfl, hwq⟩
          go_wp2_with fail
          refine hK.out _ _ ?_ (fun hClosed hHeld => ?_)
          · exact hHeld.later hwq
          clear hK KK
          (first | simp only [List.getElem_toArray, List.getElem_cons_succ, List.getElem_cons_zero, put_at, List.set] | (try simp only [put_at, List.set]))
          refine wtk (i := 15) (v := ?_) rfl hClosed (Or.inl ⟨by rfl, ?_⟩) hHeld (fun hClosed => ?_)
          rotate_left
          · intro wv hSw; go_simp; all_goals (with_reducible rfl)
          (try simp only [List.getElem_toArray, List.getElem_cons_succ, List.getElem_cons_zero, put_at, List.set])
          refine wpAnyL_last rfl (by kernel_rfl) (by kernel_rfl) (fun KK hK => ?_)
          go_simp
          refine hK.out _ _ ?_
          (try simp only [put_at, List.set])
          rw [HV.out]
          have ST2 := Lib.hid hHeld
          clear hHeld hClosed ST
          by_cases hv0 : v < 0
          · have dv : decide (v < 0) = true := decide_eq_true hv0
            have NX := Lib.hid (NEXT.out (by omega))
            clear NEXT OUT HV
            go_upto_region 6 with fail
            refine wp_region_lastM [15, 16, 17] (fun w' => Own w' B 152 4 (some ⟨g, 0, none⟩) n c (flE enE d.toList)) (by kernel_rfl) (ST2.out.drew.own) (fun hHeld hClosed => ?_)
            refine wpAnyM_takeP (i := 0) (v := ?_) rfl (by kernel_rfl) (by kernel_rfl) (by kernel_rfl) (fun _ _ _ h => h) (by kernel_rfl) hClosed (Or.inl ⟨by rfl, ?_⟩) (fun _ => hHeld) (fun hClosed => ?_)
            rotate_left
            · intro wv hSw; go_simp; all_goals (with_reducible rfl)
            (try simp only [List.getElem_toArray, List.getElem_cons_zero, put_at, List.set])
            refine wpAnyM_takeP (i := 1) (v := ?_) rfl (by kernel_rfl) (by kernel_rfl) (by kernel_rfl) (fun _ _ _ h => h) (by kernel_rfl) hClosed (Or.inl ⟨by rfl, ?_⟩) (fun _ => hHeld) (fun hClosed => ?_)
            rotate_left
            · intro wv hSw; go_simp; all_goals (with_reducible rfl)
            (try simp only [List.getElem_toArray, List.getElem_cons_succ, List.getElem_cons_zero, put_at, List.set])
            refine wpAnyM_takeP (i := 2) (v := ?_) rfl (by kernel_rfl) (by kernel_rfl) (by kernel_rfl) (fun _ _ _ h => h) (by kernel_rfl) hClosed (Or.inl ⟨by rfl, ?_⟩) (fun _ => hHeld) (fun hClosed => ?_)
            rotate_left
            · intro wv hSw; go_simp; all_goals (with_reducible rfl)
            (try simp only [List.getElem_toArray, List.getElem_cons_succ, List.getElem_cons_zero, put_at, List.set])
            refine wpAnyM_takeP (i := 3) (v := ?_) rfl (by kernel_rfl) (by kernel_rfl) (by kernel_rfl) (fun _ _ _ h => h) (by kernel_rfl) hClosed (Or.inl ⟨by rfl, ?_⟩) (fun _ => hHeld) (fun hClosed => ?_)
            rotate_left
            · intro wv hSw; go_simp; all_goals (with_reducible rfl)
            (try simp only [List.getElem_toArray, List.getElem_cons_succ, List.getElem_cons_zero, put_at, List.set])
            refine wpAnyM_takeP (i := 4) (v := ?_) rfl (by kernel_rfl) (by kernel_rfl) (by kernel_rfl) (fun _ _ _ h => h) (by kernel_rfl) hClosed (Or.inl ⟨by rfl, ?_⟩) (fun _ => hHeld) (fun hClosed => ?_)
            rotate_left
            · intro wv hSw; go_simp; all_goals (with_reducible rfl)
            (try simp only [List.getElem_toArray, List.getElem_cons_succ, List.getElem_cons_zero, put_at, List.set])
            refine wpAnyM_takeP (i := 5) (v := ?_) rfl (by kernel_rfl) (by kernel_rfl) (by kernel_rfl) (fun _ _ _ h => h) (by kernel_rfl) hClosed (Or.inl ⟨by rfl, ?_⟩) (fun _ => hHeld) (fun hClosed => ?_)
            rotate_left
            · intro wv hSw; go_simp; all_goals (with_reducible rfl)
            (try simp only [List.getElem_toArray, List.getElem_cons_succ, List.getElem_cons_zero, put_at, List.set])
            refine wpAnyM_takeP (i := 6) (v := ?_) rfl (by kernel_rfl) (by kernel_rfl) (by kernel_rfl) (fun _ _ _ h => h) (by kernel_rfl) hClosed (Or.inl ⟨by rfl, ?_⟩) (fun _ => hHeld) (fun hClosed => ?_)
            rotate_left
            · intro wv hSw; go_simp; all_goals (with_reducible rfl)
            (try simp only [List.getElem_toArray, List.getElem_cons_succ, List.getElem_cons_zero, put_at, List.set])
            refine wpAnyM_takeP (i := 7) (v := ?_) rfl (by kernel_rfl) (by kernel_rfl) (by kernel_rfl) (fun _ _ _ h => h) (by kernel_rfl) hClosed (Or.inl ⟨by rfl, ?_⟩) (fun _ => hHeld) (fun hClosed => ?_)
            rotate_left
            · intro wv hSw; go_simp; all_goals (with_reducible rfl)
            (try simp only [List.getElem_toArray, List.getElem_cons_succ, List.getElem_cons_zero, put_at, List.set])
            refine wpAnyM_takeP (i := 8) (v := ?_) rfl (by kernel_rfl) (by kernel_rfl) (by kernel_rfl) (fun _ _ _ h => h) (by kernel_rfl) hClosed (Or.inl ⟨by rfl, ?_⟩) (fun _ => hHeld) (fun hClosed => ?_)
            rotate_left
            · intro wv hSw; go_simp; all_goals (with_reducible rfl)
            (try simp only [List.getElem_toArray, List.getElem_cons_succ, List.getElem_cons_zero, put_at, List.set])
            refine wpAnyM_take (i := 9) (v := .agg (enE Y).toArray) rfl (by kernel_rfl) (by kernel_rfl) (by kernel_rfl) (by kernel_rfl) (fun _ _ _ h => h) (by kernel_rfl) hClosed (Or.inl ⟨by rfl, ?_⟩) (fun _ => hHeld) (fun hClosed => ?_)
            · intro wv hSw; exact exec_load_at (by rfl) (by rfl) (own_elem enE_len hSw HY.out) Tryz.underlying152 rfl (by kernel_rfl)
            (try simp only [List.getElem_toArray, List.getElem_cons_succ, List.getElem_cons_zero, put_at, List.set])
            refine wpAnyM_takeP (i := 10) (v := ?_) rfl (by kernel_rfl) (by kernel_rfl) (by kernel_rfl) (fun _ _ _ h => h) (by kernel_rfl) hClosed (Or.inl ⟨by rfl, ?_⟩) (fun _ => hHeld) (fun hClosed => ?_)
            rotate_left
            · intro wv hSw; go_simp; all_goals (with_reducible rfl)
            (try simp only [List.getElem_toArray, List.getElem_cons_succ, List.getElem_cons_zero, put_at, List.set])
            refine wpAnyM_takeP (i := 11) (v := ?_) rfl (by kernel_rfl) (by kernel_rfl) (by kernel_rfl) (fun _ _ _ h => h) (by kernel_rfl) hClosed (Or.inl ⟨by rfl, ?_⟩) (fun _ => hHeld) (fun hClosed => ?_)
            rotate_left
            · intro wv hSw; go_simp; all_goals (with_reducible rfl)
            (try simp only [List.getElem_toArray, List.getElem_cons_succ, List.getElem_cons_zero, put_at, List.set])
            refine wpAnyM_takeP (i := 12) (v := ?_) rfl (by kernel_rfl) (by kernel_rfl) (by kernel_rfl) (fun _ _ _ h => h) (by kernel_rfl) hClosed (Or.inl ⟨by rfl, ?_⟩) (fun _ => hHeld) (fun hClosed => ?_)
            rotate_left
            · intro wv hSw; go_simp; all_goals (with_reducible rfl)
            (try simp only [List.getElem_toArray, List.getElem_cons_succ, List.getElem_cons_zero, put_at, List.set])
            refine wpAnyM_take (i := 13) (v := .agg (enE X).toArray) rfl (by kernel_rfl) (by kernel_rfl) (by kernel_rfl) (by kernel_rfl) (fun _ _ _ h => h) (by kernel_rfl) hClosed (Or.inl ⟨by rfl, ?_⟩) (fun _ => hHeld) (fun hClosed => ?_)
            · intro wv hSw; exact exec_load_at (by rfl) (by rfl) (own_elem enE_len hSw HX.out) Tryz.underlying152 rfl (by kernel_rfl)
            (try simp only [List.getElem_toArray, List.getElem_cons_succ, List.getElem_cons_zero, put_at, List.set])
            refine wpAnyM_takeP (i := 14) (v := ?_) rfl (by kernel_rfl) (by kernel_rfl) (by kernel_rfl) (fun _ _ _ h => h) (by kernel_rfl) hClosed (Or.inl ⟨by rfl, ?_⟩) (fun _ => hHeld) (fun hClosed => ?_)
            rotate_left
            · intro wv hSw; go_simp; all_goals (with_reducible rfl)
            (try simp only [List.getElem_toArray, List.getElem_cons_succ, List.getElem_cons_zero, put_at, List.set])
            refine wpAnyM_end (i := 15) rfl (by kernel_rfl) (by kernel_rfl) hClosed (fun KK hK => ?_)
            refine step_storeE rfl rfl rfl rfl enE_len enE_one (by kernel_rfl) hHeld HDL.out hjn ?_
            intro w1 p1 p2 p3
            refine hK.out _ _ (fun hClosed => ?_)
            clear hK KK
            (try simp only [List.getElem_toArray, List.getElem_cons_succ, List.getElem_cons_zero, put_at, List.set])
            refine wpAnyM_end (i := 16) rfl (by kernel_rfl) (by kernel_rfl) hClosed (fun KK hK => ?_)
            go_simp
            refine hK.out _ _ (fun hClosed => ?_)
            clear hK KK
            (try simp only [List.getElem_toArray, List.getElem_cons_succ, List.getElem_cons_zero, put_at, List.set])
            refine wpAnyM_end (i := 17) rfl (by kernel_rfl) (by kernel_rfl) hClosed (fun KK hK => ?_)
            refine step_storeE rfl rfl rfl rfl enE_len enE_one (by kernel_rfl) p1 (by rw [List.length_set]; exact HDL.out) hkn ?_
            intro w2 p4 p5 p6
            refine hK.out _ _ (fun hClosed => ?_)
            clear hK KK
            (try simp only [List.getElem_toArray, List.getElem_cons_succ, List.getElem_cons_zero, put_at, List.set])
            refine wpAnyM_over (by kernel_rfl) ?_
            have NX2 := Lib.hid (And.intro (LN.out _ p4 (only_grown (only_grown ST2.out.drew.only p2) p5)) NX.out)
            clear p1 p2 p3 p4 p5 p6 hClosed hHeld ST2
            go_wp2_with fail
            go_roundw
            case rel => exact ⟨k, _, rfl, by have := HJJ.out; omega, NX2⟩
            case measure => simp [intV]; have := HJJ.out; omega
          · have dv : decide (v < 0) = false := decide_eq_false hv0
            have NX : Hid (SrW w0 B g n c d wq ∧ insOuter ltE a b (i + 1) d = F) := Lib.hid ⟨ST2.out, OUT.out (by omega)⟩
            clear NEXT OUT HV ST2
            go_wp2_with fail
            go_roundw
            case rel => exact ⟨i + 1, d, by go_num, by omega, by omega, NX⟩
            case measure => simp [intV]; omega
        · have da : decide ((j : Int) > (a : Int)) = false := decide_eq_false (by omega)
          have da2 : decide ((a : Int) < (j : Int)) = false := decide_eq_false (by omega)
          have da3 : decide (a < j) = false := decide_eq_false hja
          have NX : Hid (insOuter ltE a b (i + 1) d = F) := Lib.hid (by rw [← HS.out.2, insI_at hja])
          clear HS
          go_upto_region 4 with fail
          refine wp_region_last 16 (fun w' => SrW w0 B g n c d w') (by kernel_rfl) (ST.out.drew) (fun hHeld hClosed => ?_)
          refine wtk (i := 0) (v := ?_) rfl hClosed (Or.inl ⟨by rfl, ?_⟩) hHeld (fun hClosed => ?_)
          rotate_left
          · intro wv hSw; go_simp; all_goals (with_reducible rfl)
          (try simp only [List.getElem_toArray, List.getElem_cons_zero, put_at, List.set])
          refine wtk (i := 1) (v := ?_) rfl hClosed (Or.inl ⟨by rfl, ?_⟩) hHeld (fun hClosed => ?_)
          rotate_left
          · intro wv hSw; go_simp; all_goals (with_reducible rfl)
          (try simp only [List.getElem_toArray, List.getElem_cons_succ, List.getElem_cons_zero, put_at, List.set])
          refine wtk (i := 2) (v := ?_) rfl hClosed (Or.inl ⟨by rfl, ?_⟩) hHeld (fun hClosed => ?_)
          rotate_left
          · intro wv hSw; go_simp; all_goals (with_reducible rfl)
          (try simp only [List.getElem_toArray, List.getElem_cons_succ, List.getElem_cons_zero, put_at, List.set])
          refine wtk (i := 3) (v := ?_) rfl hClosed (Or.inl ⟨by rfl, ?_⟩) hHeld (fun hClosed => ?_)
          rotate_left
          · intro wv hSw; go_simp; all_goals (with_reducible rfl)
          (try simp only [List.getElem_toArray, List.getElem_cons_succ, List.getElem_cons_zero, put_at, List.set])
          refine wtk (i := 4) (v := undef) rfl hClosed (Or.inr ⟨by rfl, rfl⟩) hHeld (fun hClosed => ?_)
          (try simp only [List.getElem_toArray, List.getElem_cons_succ, List.getElem_cons_zero, put_at, List.set])
          refine wtk (i := 5) (v := undef) rfl hClosed (Or.inr ⟨by rfl, rfl⟩) hHeld (fun hClosed => ?_)
          (try simp only [List.getElem_toArray, List.getElem_cons_succ, List.getElem_cons_zero, put_at, List.set])
          refine wtk (i := 6) (v := undef) rfl hClosed (Or.inr ⟨by rfl, rfl⟩) hHeld (fun hClosed => ?_)
          (try simp only [List.getElem_toArray, List.getElem_cons_succ, List.getElem_cons_zero, put_at, List.set])
          refine wtk (i := 7) (v := undef) rfl hClosed (Or.inr ⟨by rfl, rfl⟩) hHeld (fun hClosed => ?_)
          (try simp only [List.getElem_toArray, List.getElem_cons_succ, List.getElem_cons_zero, put_at, List.set])
          refine wtk (i := 8) (v := undef) rfl hClosed (Or.inr ⟨by rfl, rfl⟩) hHeld (fun hClosed => ?_)
          (try simp only [List.getElem_toArray, List.getElem_cons_succ, List.getElem_cons_zero, put_at, List.set])
          refine wtk (i := 9) (v := undef) rfl hClosed (Or.inr ⟨by rfl, rfl⟩) hHeld (fun hClosed => ?_)
          (try simp only [List.getElem_toArray, List.getElem_cons_succ, List.getElem_cons_zero, put_at, List.set])
          refine wtk (i := 10) (v := undef) rfl hClosed (Or.inr ⟨by rfl, rfl⟩) hHeld (fun hClosed => ?_)
          (try simp only [List.getElem_toArray, List.getElem_cons_succ, List.getElem_cons_zero, put_at, List.set])
          refine wtk (i := 11) (v := undef) rfl hClosed (Or.inr ⟨by rfl, rfl⟩) hHeld (fun hClosed => ?_)
          (try simp only [List.getElem_toArray, List.getElem_cons_succ, List.getElem_cons_zero, put_at, List.set])
          refine wtk (i := 12) (v := undef) rfl hClosed (Or.inr ⟨by rfl, rfl⟩) hHeld (fun hClosed => ?_)
          (try simp only [List.getElem_toArray, List.getElem_cons_succ, List.getElem_cons_zero, put_at, List.set])
          refine wtk (i := 13) (v := undef) rfl hClosed (Or.inr ⟨by rfl, rfl⟩) hHeld (fun hClosed => ?_)
          (try simp only [List.getElem_toArray, List.getElem_cons_succ, List.getElem_cons_zero, put_at, List.set])
          refine wtk (i := 14) (v := undef) rfl hClosed (Or.inr ⟨by rfl, rfl⟩) hHeld (fun hClosed => ?_)
          (try simp only [List.getElem_toArray, List.getElem_cons_succ, List.getElem_cons_zero, put_at, List.set])
          refine wtk (i := 15) (v := undef) rfl hClosed (Or.inr ⟨by rfl, rfl⟩) hHeld (fun hClosed => ?_)
          (try simp only [List.getElem_toArray, List.getElem_cons_succ, List.getElem_cons_zero, put_at, List.set])
          refine wpAnyL_last rfl (by kernel_rfl) (by kernel_rfl) (fun KK hK => ?_)
          go_simp
          refine hK.out _ _ ?_
          (try simp only [put_at, List.set])
          have NX2 : Hid (SrW w0 B g n c d wr.drew ∧ insOuter ltE a b (i + 1) d = F) := Lib.hid ⟨hHeld, NX.out⟩
          clear hHeld hClosed ST NX
          go_wp2_with fail
          go_roundw
          case rel => exact ⟨i + 1, d, by go_num, by omega, by omega, NX2⟩
          case measure => simp [intV]; omega
    · have d1 : decide ((i : Int) < (b : Int)) = false := decide_eq_false (by omega)
      have FIN : Hid (SrW w0 B g n c F wr) := Lib.hid (by
        have h9 := HS.out.2
        rw [insO_end hlt] at h9
        exact h9 ▸ HS.out.1)
      clear HS
      go_wp2_with fail
      go_end0
      exact ⟨rfl, FIN.out⟩
end Go.Proofs.YtimkgaokcldgkaaGreatDoor
/- Sorting records: merges by rotation. Written by gen_srsym.py. -/
namespace Go.Proofs.YtimkgaokcldgkaaGreatDoor
open Go Go.RowKit Go.Sort
set_option linter.unusedVariables false
set_option linter.unusedSimpArgs false
set_option maxRecDepth 100000

theorem sym_c {f a m b : Nat} {d : Array En} (hA : ¬ m - a = 1) (hB : ¬ b - m = 1) : sym ltE (f + 1) d a m b =
    (if (a + b) / 2 < (a + b) / 2 + m - symS ltE d a m b ∧ (a + b) / 2 + m - symS ltE d a m b < b then
      sym ltE f (if a < symS ltE d a m b ∧ symS ltE d a m b < (a + b) / 2 then sym ltE f (sym1 ltE d a m b) a (symS ltE d a m b) ((a + b) / 2) else sym1 ltE d a m b) ((a + b) / 2) ((a + b) / 2 + m - symS ltE d a m b) b
    else (if a < symS ltE d a m b ∧ symS ltE d a m b < (a + b) / 2 then sym ltE f (sym1 ltE d a m b) a (symS ltE d a m b) ((a + b) / 2) else sym1 ltE d a m b)) := by
  conv => lhs; unfold sym
  rw [if_neg hA, if_neg hB]
set_option maxHeartbeats 8000000 in
theorem sym_ka (f : Nat) {w0 : World} {B g n c : Nat} (hn : n ≤ 100000000)
    (ih : ∀ (a m b : Nat) {w : World} {d : Array En}, SrW w0 B g n c d w → a < m → m < b → b ≤ n → b - a ≤ f → Calls Tryz.prog 132 #[.slice (some ⟨g, 0, none⟩) n c, .int .i64 (a : Int), .int .i64 (m : Int), .int .i64 (b : Int), .func (.func 108) #[] #[]] w fun e w' => e = .returned (.tuple #[]) ∧ SrW w0 B g n c (sym ltE f d a m b) w')
    (a m b : Nat) {w : World} {d : Array En} (h : SrW w0 B g n c d w) (h1 : a < m) (h2 : m < b) (h3 : b ≤ n) (hf : b - a ≤ f + 1) (hA : m - a = 1) :
    Calls Tryz.prog 132 #[.slice (some ⟨g, 0, none⟩) n c, .int .i64 (a : Int), .int .i64 (m : Int), .int .i64 (b : Int), .func (.func 108) #[] #[]] w fun e w' => e = .returned (.tuple #[]) ∧ SrW w0 B g n c (sym ltE (f + 1) d a m b) w' := by
  obtain ⟨F, hF⟩ : ∃ F, sym ltE (f + 1) d a m b = F := ⟨_, rfl⟩
  rw [hF]
  have IH := Lib.hid ih
  clear ih
  have ENT : ∀ args w, (callFunc 108 args).run Tryz.prog w = .ok (.enter 108 args) w := enters_of Tryz.func108 (by kernel_rfl) rfl
  have ST := Lib.hid h
  have HF := Lib.hid hF
  have wma : IntKind.i64.wrap ((m : Int) - (a : Int)) = ((m - a : Nat) : Int) := by rw [IntKind.wrap_i64]; omega
  have wbm : IntKind.i64.wrap ((b : Int) - (m : Int)) = ((b - m : Nat) : Int) := by rw [IntKind.wrap_i64]; omega
  clear h hF
  have dA : (((m - a : Nat) : Int) == 1) = true := beq_iff_eq.2 (by omega)
  obtain ⟨PD, hPD⟩ : ∃ PD : Nat → Bool, (fun h => ltE d[h]! d[a]!) = PD := ⟨_, rfl⟩
  have HPD : Hid (∀ h, PD h = ltE d[h]! d[a]!) := Lib.hid (fun h => by rw [← hPD])
  obtain ⟨r, hr⟩ : ∃ r, bsR PD m b = r := ⟨_, rfl⟩
  have HFA : Hid (F = upS d a (r - 1)) := Lib.hid (by rw [← HF.out]; unfold sym; rw [if_pos hA, hPD, hr])
  have BS0 : Hid (SrW w0 B g n c d w ∧ bsR PD m b = r) := Lib.hid ⟨ST.out, hr⟩
  clear hr ST HF hPD
  go_enter Tryz.func132, Tryz.ntmps132
  go_wp2_with fail
  go_loopw [10, 11] (fun vi vj wr => ∃ (i j : Nat), vi = .int .i64 (i : Int) ∧ vj = .int .i64 (j : Int) ∧ m ≤ i ∧ i ≤ j ∧ j ≤ b ∧ Hid (SrW w0 B g n c d wr ∧ bsR PD i j = r)) (fun vi vj _ => (intV vj).toNat - (intV vi).toNat)
  case atStart => exact ⟨_, _, rfl, rfl, Nat.le_refl _, by omega, Nat.le_refl _, BS0⟩
  case round =>
    clear BS0
    obtain ⟨i, j, rfl, rfl, hlo, hij, hhi, HS⟩ := hrel
    by_cases hlt : i < j
    · have d1 : decide ((i : Int) < (j : Int)) = true := decide_eq_true (by omega)
      have d1n : decide (i < j) = true := decide_eq_true hlt
      obtain ⟨h, hh⟩ : ∃ h, (i + j) / 2 = h := ⟨_, rfl⟩
      have hh2 : ((i : Int) + (j : Int)) / 2 = (h : Int) := by omega
      have ST := Lib.hid HS.out.1
      have hxn : h < n := by omega
      have hyn : a < n := by omega
      obtain ⟨X, hX⟩ : ∃ e, d[h]! = e := ⟨_, rfl⟩
      obtain ⟨Y, hY⟩ : ∃ e, d[a]! = e := ⟨_, rfl⟩
      have HX : Hid (d.toList[h]? = some X) := Lib.hid (by rw [← hX]; exact get_some d (by rw [ST.out.len]; exact hxn))
      have HY : Hid (d.toList[a]? = some Y) := Lib.hid (by rw [← hY]; exact get_some d (by rw [ST.out.len]; exact hyn))
      obtain ⟨v, hv⟩ : ∃ v, cmpE X Y = v := ⟨_, rfl⟩
      have HV := Lib.hid hv
      have hp : PD ((i + j) / 2) = decide (v < 0) := by
        rw [hh, HPD.out, hX, hY]
        unfold ltE
        rw [hv]
      have NXT : Hid ((decide (v < 0)) = true → bsR PD (h + 1) j = r) := Lib.hid (fun hv0 => by rw [← HS.out.2, bsR_go hlt, hp, if_pos hv0, hh])
      have NXF : Hid ((decide (v < 0)) = false → bsR PD i h = r) := Lib.hid (fun hv0 => by rw [← HS.out.2, bsR_go hlt, hp, if_neg (by rw [hv0]; decide), hh])
      have x0 : (0 : Int) ≤ ((h : Nat) : Int) := by omega
      have x1 : ((h : Nat) : Int) < (n : Int) := by omega
      have y0 : (0 : Int) ≤ ((a : Nat) : Int) := by omega
      have y1 : ((a : Nat) : Int) < (n : Int) := by omega
      have hhj : h < j := by omega
      have hih : i ≤ h := by omega
      clear hX hY hp HS hv hh
      go_upto_region 5 with fail
      refine wp_region_last 10 (fun w' => SrW w0 B g n c d w') (by kernel_rfl) (ST.out.drew) (fun hHeld hClosed => ?_)
      refine wtk (i := 0) (v := ?_) rfl hClosed (Or.inl ⟨by rfl, ?_⟩) hHeld (fun hClosed => ?_)
      rotate_left
      · intro wv hSw; go_simp; all_goals (with_reducible rfl)
      (try simp only [List.getElem_toArray, List.getElem_cons_zero, put_at, List.set])
      refine wtk (i := 1) (v := ?_) rfl hClosed (Or.inl ⟨by rfl, ?_⟩) hHeld (fun hClosed => ?_)
      rotate_left
      · intro wv hSw; go_simp; all_goals (with_reducible rfl)
      (try simp only [List.getElem_toArray, List.getElem_cons_succ, List.getElem_cons_zero, put_at, List.set])
      refine wtk (i := 2) (v := ?_) rfl hClosed (Or.inl ⟨by rfl, ?_⟩) hHeld (fun hClosed => ?_)
      rotate_left
      · intro wv hSw; go_simp; all_goals (with_reducible rfl)
      (try simp only [List.getElem_toArray, List.getElem_cons_succ, List.getElem_cons_zero, put_at, List.set])
      refine wtk (i := 3) (v := ?_) rfl hClosed (Or.inl ⟨by rfl, ?_⟩) hHeld (fun hClosed => ?_)
      rotate_left
      · intro wv hSw; go_simp; all_goals (with_reducible rfl)
      (try simp only [List.getElem_toArray, List.getElem_cons_succ, List.getElem_cons_zero, put_at, List.set])
      refine wtk (i := 4) (v := .agg (enE X).toArray) rfl hClosed (Or.inl ⟨by rfl, ?_⟩) hHeld (fun hClosed => ?_)
      · intro wv hSw; exact exec_load_at (by rfl) (by rfl) (own_elem enE_len hSw.own HX.out) Tryz.underlying152 rfl (by kernel_rfl)
      (try simp only [List.getElem_toArray, List.getElem_cons_succ, List.getElem_cons_zero, put_at, List.set])
      refine wtk (i := 5) (v := ?_) rfl hClosed (Or.inl ⟨by rfl, ?_⟩) hHeld (fun hClosed => ?_)
      rotate_left
      · intro wv hSw; go_simp; all_goals (with_reducible rfl)
      (try simp only [List.getElem_toArray, List.getElem_cons_succ, List.getElem_cons_zero, put_at, List.set])
      refine wtk (i := 6) (v := ?_) rfl hClosed (Or.inl ⟨by rfl, ?_⟩) hHeld (fun hClosed => ?_)
      rotate_left
      · intro wv hSw; go_simp; all_goals (with_reducible rfl)
      (try simp only [List.getElem_toArray, List.getElem_cons_succ, List.getElem_cons_zero, put_at, List.set])
      refine wtk (i := 7) (v := ?_) rfl hClosed (Or.inl ⟨by rfl, ?_⟩) hHeld (fun hClosed => ?_)
      rotate_left
      · intro wv hSw; go_simp; all_goals (with_reducible rfl)
      (try simp only [List.getElem_toArray, List.getElem_cons_succ, List.getElem_cons_zero, put_at, List.set])
      refine wtk (i := 8) (v := .agg (enE Y).toArray) rfl hClosed (Or.inl ⟨by rfl, ?_⟩) hHeld (fun hClosed => ?_)
      · intro wv hSw; exact exec_load_at (by rfl) (by rfl) (own_elem enE_len hSw.own HY.out) Tryz.underlying152 rfl (by kernel_rfl)
      (try simp only [List.getElem_toArray, List.getElem_cons_succ, List.getElem_cons_zero, put_at, List.set])
      refine wpAnyL_one (i := 9) rfl (by kernel_rfl) (by kernel_rfl) hClosed (fun KK hK => ?_)
      go_simp
      refine (cmpE_at X Y _).mono ?_
      rintro e wq ⟨rfl, hwq⟩
      go_wp2_with fail
      refine hK.out _ _ ?_ (fun hClosed hHeld => ?_)
      · exact hHeld.later hwq
      clear hK KK
      (first | simp only [List.getElem_toArray, List.getElem_cons_succ, List.getElem_cons_zero, put_at, List.set] | (try simp only [put_at, List.set]))
      refine wpAnyL_last rfl (by kernel_rfl) (by kernel_rfl) (fun KK hK => ?_)
      go_simp
      refine hK.out _ _ ?_
      (try simp only [put_at, List.set])
      rw [HV.out]
      have ST2 := Lib.hid hHeld
      clear hHeld hClosed ST
      obtain ⟨q, hq⟩ : ∃ q, decide (v < 0) = q := ⟨_, rfl⟩
      rw [hq]
      have NXQ : Hid (if q = true then bsR PD (h + 1) j = r else bsR PD i h = r) := Lib.hid (by
        cases q with
        | true => exact NXT.out hq
        | false => exact NXF.out hq)
      clear NXT NXF HV hq
      cases q with
      | true =>
        have NX : Hid (SrW w0 B g n c d wq ∧ bsR PD (h + 1) j = r) := Lib.hid ⟨ST2.out, NXQ.out⟩
        clear NXQ ST2
        go_wp2_with fail
        go_roundw
        case rel => exact ⟨h + 1, j, by first | rfl | go_num, by first | rfl | go_num, by omega, by omega, by omega, NX⟩
        case measure => simp [intV]; omega
      | false =>
        have NX : Hid (SrW w0 B g n c d wq ∧ bsR PD i h = r) := Lib.hid ⟨ST2.out, NXQ.out⟩
        clear NXQ ST2
        go_wp2_with fail
        go_roundw
        case rel => exact ⟨i, h, by first | rfl | go_num, by first | rfl | go_num, by omega, by omega, by omega, NX⟩
        case measure => simp [intV]; omega
    · have d1 : decide ((i : Int) < (j : Int)) = false := decide_eq_false (by omega)
      have hji : j = i := by omega
      subst hji
      have hr : j = r := by rw [← HS.out.2, bsR_end (by omega)]
      subst hr
      have ST := Lib.hid HS.out.1
      clear HS
      have FE : Hid (F = upS d a (j - 1)) := HFA
      have ST0 : Hid (SrW w0 B g n c d wr ∧ upS d a (j - 1) = F) := Lib.hid ⟨ST.out, FE.out.symm⟩
      have wj1 : IntKind.i64.wrap ((j : Int) - 1) = ((j - 1 : Nat) : Int) := by rw [IntKind.wrap_i64]; omega
      obtain ⟨e, he⟩ : ∃ e, j - 1 = e := ⟨_, rfl⟩
      rw [he] at ST0 wj1
      have hen : e < n := by omega
      clear ST FE HFA
      go_wp2_with fail
      go_loopw [13] (fun vk wr => ∃ (k : Nat) (d : Array En), vk = .int .i64 (k : Int) ∧ a ≤ k ∧ k ≤ n ∧ Hid (SrW w0 B g n c d wr ∧ upS d k e = F)) (fun vk _ => n - (intV vk).toNat)
      case atStart => exact ⟨a, d, rfl, Nat.le_refl _, by omega, ST0⟩
      case round =>
        clear ST0 HPD
        obtain ⟨k, d, rfl, hak, hkn, HS⟩ := hrel
        by_cases hke : k < e
        · have d1 : decide ((k : Int) < (e : Int)) = true := decide_eq_true (by omega)
          have d1n : decide (k < e) = true := decide_eq_true hke
          have ST := Lib.hid HS.out.1
          have wk : IntKind.i64.wrap ((k : Int) + 1) = ((k + 1 : Nat) : Int) := by rw [IntKind.wrap_i64]; omega
          obtain ⟨X, hX⟩ : ∃ e, d[k]! = e := ⟨_, rfl⟩
          obtain ⟨Y, hY⟩ : ∃ e, d[k + 1]! = e := ⟨_, rfl⟩
          have HX : Hid (d.toList[k]? = some X) := Lib.hid (by rw [← hX]; exact get_some d (by rw [ST.out.len]; omega))
          have HY : Hid (d.toList[k + 1]? = some Y) := Lib.hid (by rw [← hY]; exact get_some d (by rw [ST.out.len]; omega))
          have HDL : Hid (d.toList.length = n) := Lib.hid (by rw [Array.length_toList]; exact ST.out.len)
          have LN : Hid (∀ w', Own w' B 152 4 (some ⟨g, 0, none⟩) n c (flE enE ((d.toList.set k Y).set (k + 1) X)) → Only (fun k => k = g) w0 w' → SrW w0 B g n c (swp d k (k + 1)) w' ∧ upS (swp d k (k + 1)) (k + 1) e = F) := Lib.hid (fun w' q1 q2 => ⟨ST.out.swp (by omega) (by omega) HX.out HY.out q1 q2, by rw [← HS.out.2, upS_go hke]⟩)
          obtain ⟨kk, hkk⟩ : ∃ kk, k + 1 = kk := ⟨_, rfl⟩
          rw [hkk] at wk HY LN
          have HKK := Lib.hid hkk
          have i0 : (0 : Int) ≤ (k : Int) := by omega
          have i1 : (k : Int) < (n : Int) := by omega
          have j0 : (0 : Int) ≤ (kk : Int) := by omega
          have j1 : (kk : Int) < (n : Int) := by omega
          have hkn2 : k < n := by omega
          have hkkn : kk < n := by omega
          clear hX hY HS hkk
          go_upto_region 11 with fail
          refine wp_region_lastM [15, 16, 17] (fun w' => Own w' B 152 4 (some ⟨g, 0, none⟩) n c (flE enE d.toList)) (by kernel_rfl) (ST.out.drew.own) (fun hHeld hClosed => ?_)
          refine wpAnyM_takeP (i := 0) (v := ?_) rfl (by kernel_rfl) (by kernel_rfl) (by kernel_rfl) (fun _ _ _ h => h) (by kernel_rfl) hClosed (Or.inl ⟨by rfl, ?_⟩) (fun _ => hHeld) (fun hClosed => ?_)
          rotate_left
          · intro wv hSw; go_simp; all_goals (with_reducible rfl)
          (try simp only [List.getElem_toArray, List.getElem_cons_zero, put_at, List.set])
          refine wpAnyM_takeP (i := 1) (v := ?_) rfl (by kernel_rfl) (by kernel_rfl) (by kernel_rfl) (fun _ _ _ h => h) (by kernel_rfl) hClosed (Or.inl ⟨by rfl, ?_⟩) (fun _ => hHeld) (fun hClosed => ?_)
          rotate_left
          · intro wv hSw; go_simp; all_goals (with_reducible rfl)
          (try simp only [List.getElem_toArray, List.getElem_cons_succ, List.getElem_cons_zero, put_at, List.set])
          refine wpAnyM_takeP (i := 2) (v := ?_) rfl (by kernel_rfl) (by kernel_rfl) (by kernel_rfl) (fun _ _ _ h => h) (by kernel_rfl) hClosed (Or.inl ⟨by rfl, ?_⟩) (fun _ => hHeld) (fun hClosed => ?_)
          rotate_left
          · intro wv hSw; go_simp; all_goals (with_reducible rfl)
          (try simp only [List.getElem_toArray, List.getElem_cons_succ, List.getElem_cons_zero, put_at, List.set])
          refine wpAnyM_takeP (i := 3) (v := ?_) rfl (by kernel_rfl) (by kernel_rfl) (by kernel_rfl) (fun _ _ _ h => h) (by kernel_rfl) hClosed (Or.inl ⟨by rfl, ?_⟩) (fun _ => hHeld) (fun hClosed => ?_)
          rotate_left
          · intro wv hSw; go_simp; all_goals (with_reducible rfl)
          (try simp only [List.getElem_toArray, List.getElem_cons_succ, List.getElem_cons_zero, put_at, List.set])
          refine wpAnyM_takeP (i := 4) (v := ?_) rfl (by kernel_rfl) (by kernel_rfl) (by kernel_rfl) (fun _ _ _ h => h) (by kernel_rfl) hClosed (Or.inl ⟨by rfl, ?_⟩) (fun _ => hHeld) (fun hClosed => ?_)
          rotate_left
          · intro wv hSw; go_simp; all_goals (with_reducible rfl)
          (try simp only [List.getElem_toArray, List.getElem_cons_succ, List.getElem_cons_zero, put_at, List.set])
          refine wpAnyM_takeP (i := 5) (v := ?_) rfl (by kernel_rfl) (by kernel_rfl) (by kernel_rfl) (fun _ _ _ h => h) (by kernel_rfl) hClosed (Or.inl ⟨by rfl, ?_⟩) (fun _ => hHeld) (fun hClosed => ?_)
          rotate_left
          · intro wv hSw; go_simp; all_goals (with_reducible rfl)
          (try simp only [List.getElem_toArray, List.getElem_cons_succ, List.getElem_cons_zero, put_at, List.set])
          refine wpAnyM_takeP (i := 6) (v := ?_) rfl (by kernel_rfl) (by kernel_rfl) (by kernel_rfl) (fun _ _ _ h => h) (by kernel_rfl) hClosed (Or.inl ⟨by rfl, ?_⟩) (fun _ => hHeld) (fun hClosed => ?_)
          rotate_left
          · intro wv hSw; go_simp; all_goals (with_reducible rfl)
          (try simp only [List.getElem_toArray, List.getElem_cons_succ, List.getElem_cons_zero, put_at, List.set])
          refine wpAnyM_takeP (i := 7) (v := ?_) rfl (by kernel_rfl) (by kernel_rfl) (by kernel_rfl) (fun _ _ _ h => h) (by kernel_rfl) hClosed (Or.inl ⟨by rfl, ?_⟩) (fun _ => hHeld) (fun hClosed => ?_)
          rotate_left
          · intro wv hSw; go_simp; all_goals (with_reducible rfl)
          (try simp only [List.getElem_toArray, List.getElem_cons_succ, List.getElem_cons_zero, put_at, List.set])
          refine wpAnyM_takeP (i := 8) (v := ?_) rfl (by kernel_rfl) (by kernel_rfl) (by kernel_rfl) (fun _ _ _ h => h) (by kernel_rfl) hClosed (Or.inl ⟨by rfl, ?_⟩) (fun _ => hHeld) (fun hClosed => ?_)
          rotate_left
          · intro wv hSw; go_simp; all_goals (with_reducible rfl)
          (try simp only [List.getElem_toArray, List.getElem_cons_succ, List.getElem_cons_zero, put_at, List.set])
          refine wpAnyM_take (i := 9) (v := .agg (enE Y).toArray) rfl (by kernel_rfl) (by kernel_rfl) (by kernel_rfl) (by kernel_rfl) (fun _ _ _ h => h) (by kernel_rfl) hClosed (Or.inl ⟨by rfl, ?_⟩) (fun _ => hHeld) (fun hClosed => ?_)
          · intro wv hSw; exact exec_load_at (by rfl) (by rfl) (own_elem enE_len hSw HY.out) Tryz.underlying152 rfl (by kernel_rfl)
          (try simp only [List.getElem_toArray, List.getElem_cons_succ, List.getElem_cons_zero, put_at, List.set])
          refine wpAnyM_takeP (i := 10) (v := ?_) rfl (by kernel_rfl) (by kernel_rfl) (by kernel_rfl) (fun _ _ _ h => h) (by kernel_rfl) hClosed (Or.inl ⟨by rfl, ?_⟩) (fun _ => hHeld) (fun hClosed => ?_)
          rotate_left
          · intro wv hSw; go_simp; all_goals (with_reducible rfl)
          (try simp only [List.getElem_toArray, List.getElem_cons_succ, List.getElem_cons_zero, put_at, List.set])
          refine wpAnyM_takeP (i := 11) (v := ?_) rfl (by kernel_rfl) (by kernel_rfl) (by kernel_rfl) (fun _ _ _ h => h) (by kernel_rfl) hClosed (Or.inl ⟨by rfl, ?_⟩) (fun _ => hHeld) (fun hClosed => ?_)
          rotate_left
          · intro wv hSw; go_simp; all_goals (with_reducible rfl)
          (try simp only [List.getElem_toArray, List.getElem_cons_succ, List.getElem_cons_zero, put_at, List.set])
          refine wpAnyM_takeP (i := 12) (v := ?_) rfl (by kernel_rfl) (by kernel_rfl) (by kernel_rfl) (fun _ _ _ h => h) (by kernel_rfl) hClosed (Or.inl ⟨by rfl, ?_⟩) (fun _ => hHeld) (fun hClosed => ?_)
          rotate_left
          · intro wv hSw; go_simp; all_goals (with_reducible rfl)
          (try simp only [List.getElem_toArray, List.getElem_cons_succ, List.getElem_cons_zero, put_at, List.set])
          refine wpAnyM_take (i := 13) (v := .agg (enE X).toArray) rfl (by kernel_rfl) (by kernel_rfl) (by kernel_rfl) (by kernel_rfl) (fun _ _ _ h => h) (by kernel_rfl) hClosed (Or.inl ⟨by rfl, ?_⟩) (fun _ => hHeld) (fun hClosed => ?_)
          · intro wv hSw; exact exec_load_at (by rfl) (by rfl) (own_elem enE_len hSw HX.out) Tryz.underlying152 rfl (by kernel_rfl)
          (try simp only [List.getElem_toArray, List.getElem_cons_succ, List.getElem_cons_zero, put_at, List.set])
          refine wpAnyM_takeP (i := 14) (v := ?_) rfl (by kernel_rfl) (by kernel_rfl) (by kernel_rfl) (fun _ _ _ h => h) (by kernel_rfl) hClosed (Or.inl ⟨by rfl, ?_⟩) (fun _ => hHeld) (fun hClosed => ?_)
          rotate_left
          · intro wv hSw; go_simp; all_goals (with_reducible rfl)
          (try simp only [List.getElem_toArray, List.getElem_cons_succ, List.getElem_cons_zero, put_at, List.set])
          refine wpAnyM_end (i := 15) rfl (by kernel_rfl) (by kernel_rfl) hClosed (fun KK hK => ?_)
          refine step_storeE rfl rfl rfl rfl enE_len enE_one (by kernel_rfl) hHeld HDL.out hkn2 ?_
          intro w1 p1 p2 p3
          refine hK.out _ _ (fun hClosed => ?_)
          clear hK KK
          (try simp only [List.getElem_toArray, List.getElem_cons_succ, List.getElem_cons_zero, put_at, List.set])
          refine wpAnyM_end (i := 16) rfl (by kernel_rfl) (by kernel_rfl) hClosed (fun KK hK => ?_)
          go_simp
          refine hK.out _ _ (fun hClosed => ?_)
          clear hK KK
          (try simp only [List.getElem_toArray, List.getElem_cons_succ, List.getElem_cons_zero, put_at, List.set])
          refine wpAnyM_end (i := 17) rfl (by kernel_rfl) (by kernel_rfl) hClosed (fun KK hK => ?_)
          refine step_storeE rfl rfl rfl rfl enE_len enE_one (by kernel_rfl) p1 (by rw [List.length_set]; exact HDL.out) hkkn ?_
          intro w2 p4 p5 p6
          refine hK.out _ _ (fun hClosed => ?_)
          clear hK KK
          (try simp only [List.getElem_toArray, List.getElem_cons_succ, List.getElem_cons_zero, put_at, List.set])
          refine wpAnyM_over (by kernel_rfl) ?_
          have NX2 := Lib.hid (LN.out _ p4 (only_grown (only_grown ST.out.drew.only p2) p5))
          clear p1 p2 p3 p4 p5 p6 hClosed hHeld ST
          go_wp2_with fail
          go_roundw
          case rel => exact ⟨kk, _, rfl, by have := HKK.out; omega, by omega, by rw [← HKK.out] at NX2 ⊢; exact NX2⟩
          case measure => simp [intV]; have := HKK.out; omega
        · have d1 : decide ((k : Int) < (e : Int)) = false := decide_eq_false (by omega)
          have FIN : Hid (SrW w0 B g n c F wr) := Lib.hid (by
            have h9 := HS.out.2
            rw [upS_end hke] at h9
            exact h9 ▸ HS.out.1)
          clear HS
          go_wp2_with fail
          exact bodyPost_ret (results_none Tryz.results132 _ _ _) rfl ⟨rfl, FIN.out⟩
set_option maxHeartbeats 8000000 in
theorem sym_kb (f : Nat) {w0 : World} {B g n c : Nat} (hn : n ≤ 100000000)
    (ih : ∀ (a m b : Nat) {w : World} {d : Array En}, SrW w0 B g n c d w → a < m → m < b → b ≤ n → b - a ≤ f → Calls Tryz.prog 132 #[.slice (some ⟨g, 0, none⟩) n c, .int .i64 (a : Int), .int .i64 (m : Int), .int .i64 (b : Int), .func (.func 108) #[] #[]] w fun e w' => e = .returned (.tuple #[]) ∧ SrW w0 B g n c (sym ltE f d a m b) w')
    (a m b : Nat) {w : World} {d : Array En} (h : SrW w0 B g n c d w) (h1 : a < m) (h2 : m < b) (h3 : b ≤ n) (hf : b - a ≤ f + 1) (hA : ¬ m - a = 1) (hB : b - m = 1) :
    Calls Tryz.prog 132 #[.slice (some ⟨g, 0, none⟩) n c, .int .i64 (a : Int), .int .i64 (m : Int), .int .i64 (b : Int), .func (.func 108) #[] #[]] w fun e w' => e = .returned (.tuple #[]) ∧ SrW w0 B g n c (sym ltE (f + 1) d a m b) w' := by
  obtain ⟨F, hF⟩ : ∃ F, sym ltE (f + 1) d a m b = F := ⟨_, rfl⟩
  rw [hF]
  have IH := Lib.hid ih
  clear ih
  have ENT : ∀ args w, (callFunc 108 args).run Tryz.prog w = .ok (.enter 108 args) w := enters_of Tryz.func108 (by kernel_rfl) rfl
  have ST := Lib.hid h
  have HF := Lib.hid hF
  have wma : IntKind.i64.wrap ((m : Int) - (a : Int)) = ((m - a : Nat) : Int) := by rw [IntKind.wrap_i64]; omega
  have wbm : IntKind.i64.wrap ((b : Int) - (m : Int)) = ((b - m : Nat) : Int) := by rw [IntKind.wrap_i64]; omega
  clear h hF
  have dA : (((m - a : Nat) : Int) == 1) = false := beq_eq_false_iff_ne.2 (by omega)
  have dB : (((b - m : Nat) : Int) == 1) = true := beq_iff_eq.2 (by omega)
  obtain ⟨PD, hPD⟩ : ∃ PD : Nat → Bool, (fun h => !ltE d[m]! d[h]!) = PD := ⟨_, rfl⟩
  have HPD : Hid (∀ h, PD h = !ltE d[m]! d[h]!) := Lib.hid (fun h => by rw [← hPD])
  obtain ⟨r, hr⟩ : ∃ r, bsR PD a m = r := ⟨_, rfl⟩
  have HFB : Hid (F = dnS r m d) := Lib.hid (by rw [← HF.out]; unfold sym; rw [if_neg hA, if_pos hB, hPD, hr])
  have BS0 : Hid (SrW w0 B g n c d w ∧ bsR PD a m = r) := Lib.hid ⟨ST.out, hr⟩
  clear hr ST HF hPD
  go_enter Tryz.func132, Tryz.ntmps132
  go_wp2_with fail
  go_loopw [14, 15] (fun vi vj wr => ∃ (i j : Nat), vi = .int .i64 (i : Int) ∧ vj = .int .i64 (j : Int) ∧ a ≤ i ∧ i ≤ j ∧ j ≤ m ∧ Hid (SrW w0 B g n c d wr ∧ bsR PD i j = r)) (fun vi vj _ => (intV vj).toNat - (intV vi).toNat)
  case atStart => exact ⟨_, _, rfl, rfl, Nat.le_refl _, by omega, Nat.le_refl _, BS0⟩
  case round =>
    clear BS0
    obtain ⟨i, j, rfl, rfl, hlo, hij, hhi, HS⟩ := hrel
    by_cases hlt : i < j
    · have d1 : decide ((i : Int) < (j : Int)) = true := decide_eq_true (by omega)
      have d1n : decide (i < j) = true := decide_eq_true hlt
      obtain ⟨h, hh⟩ : ∃ h, (i + j) / 2 = h := ⟨_, rfl⟩
      have hh2 : ((i : Int) + (j : Int)) / 2 = (h : Int) := by omega
      have ST := Lib.hid HS.out.1
      have hxn : m < n := by omega
      have hyn : h < n := by omega
      obtain ⟨X, hX⟩ : ∃ e, d[m]! = e := ⟨_, rfl⟩
      obtain ⟨Y, hY⟩ : ∃ e, d[h]! = e := ⟨_, rfl⟩
      have HX : Hid (d.toList[m]? = some X) := Lib.hid (by rw [← hX]; exact get_some d (by rw [ST.out.len]; exact hxn))
      have HY : Hid (d.toList[h]? = some Y) := Lib.hid (by rw [← hY]; exact get_some d (by rw [ST.out.len]; exact hyn))
      obtain ⟨v, hv⟩ : ∃ v, cmpE X Y = v := ⟨_, rfl⟩
      have HV := Lib.hid hv
      have hp : PD ((i + j) / 2) = !decide (v < 0) := by
        rw [hh, HPD.out, hX, hY]
        unfold ltE
        rw [hv]
      have NXT : Hid ((!decide (v < 0)) = true → bsR PD (h + 1) j = r) := Lib.hid (fun hv0 => by rw [← HS.out.2, bsR_go hlt, hp, if_pos hv0, hh])
      have NXF : Hid ((!decide (v < 0)) = false → bsR PD i h = r) := Lib.hid (fun hv0 => by rw [← HS.out.2, bsR_go hlt, hp, if_neg (by rw [hv0]; decide), hh])
      have x0 : (0 : Int) ≤ ((m : Nat) : Int) := by omega
      have x1 : ((m : Nat) : Int) < (n : Int) := by omega
      have y0 : (0 : Int) ≤ ((h : Nat) : Int) := by omega
      have y1 : ((h : Nat) : Int) < (n : Int) := by omega
      have hhj : h < j := by omega
      have hih : i ≤ h := by omega
      clear hX hY hp HS hv hh
      go_upto_region 17 with fail
      refine wp_region_last 11 (fun w' => SrW w0 B g n c d w') (by kernel_rfl) (ST.out.drew) (fun hHeld hClosed => ?_)
      refine wtk (i := 0) (v := ?_) rfl hClosed (Or.inl ⟨by rfl, ?_⟩) hHeld (fun hClosed => ?_)
      rotate_left
      · intro wv hSw; go_simp; all_goals (with_reducible rfl)
      (try simp only [List.getElem_toArray, List.getElem_cons_zero, put_at, List.set])
      refine wtk (i := 1) (v := ?_) rfl hClosed (Or.inl ⟨by rfl, ?_⟩) hHeld (fun hClosed => ?_)
      rotate_left
      · intro wv hSw; go_simp; all_goals (with_reducible rfl)
      (try simp only [List.getElem_toArray, List.getElem_cons_succ, List.getElem_cons_zero, put_at, List.set])
      refine wtk (i := 2) (v := ?_) rfl hClosed (Or.inl ⟨by rfl, ?_⟩) hHeld (fun hClosed => ?_)
      rotate_left
      · intro wv hSw; go_simp; all_goals (with_reducible rfl)
      (try simp only [List.getElem_toArray, List.getElem_cons_succ, List.getElem_cons_zero, put_at, List.set])
      refine wtk (i := 3) (v := ?_) rfl hClosed (Or.inl ⟨by rfl, ?_⟩) hHeld (fun hClosed => ?_)
      rotate_left
      · intro wv hSw; go_simp; all_goals (with_reducible rfl)
      (try simp only [List.getElem_toArray, List.getElem_cons_succ, List.getElem_cons_zero, put_at, List.set])
      refine wtk (i := 4) (v := .agg (enE X).toArray) rfl hClosed (Or.inl ⟨by rfl, ?_⟩) hHeld (fun hClosed => ?_)
      · intro wv hSw; exact exec_load_at (by rfl) (by rfl) (own_elem enE_len hSw.own HX.out) Tryz.underlying152 rfl (by kernel_rfl)
      (try simp only [List.getElem_toArray, List.getElem_cons_succ, List.getElem_cons_zero, put_at, List.set])
      refine wtk (i := 5) (v := ?_) rfl hClosed (Or.inl ⟨by rfl, ?_⟩) hHeld (fun hClosed => ?_)
      rotate_left
      · intro wv hSw; go_simp; all_goals (with_reducible rfl)
      (try simp only [List.getElem_toArray, List.getElem_cons_succ, List.getElem_cons_zero, put_at, List.set])
      refine wtk (i := 6) (v := ?_) rfl hClosed (Or.inl ⟨by rfl, ?_⟩) hHeld (fun hClosed => ?_)
      rotate_left
      · intro wv hSw; go_simp; all_goals (with_reducible rfl)
      (try simp only [List.getElem_toArray, List.getElem_cons_succ, List.getElem_cons_zero, put_at, List.set])
      refine wtk (i := 7) (v := ?_) rfl hClosed (Or.inl ⟨by rfl, ?_⟩) hHeld (fun hClosed => ?_)
      rotate_left
      · intro wv hSw; go_simp; all_goals (with_reducible rfl)
      (try simp only [List.getElem_toArray, List.getElem_cons_succ, List.getElem_cons_zero, put_at, List.set])
      refine wtk (i := 8) (v := .agg (enE Y).toArray) rfl hClosed (Or.inl ⟨by rfl, ?_⟩) hHeld (fun hClosed => ?_)
      · intro wv hSw; exact exec_load_at (by rfl) (by rfl) (own_elem enE_len hSw.own HY.out) Tryz.underlying152 rfl (by kernel_rfl)
      (try simp only [List.getElem_toArray, List.getElem_cons_succ, List.getElem_cons_zero, put_at, List.set])
      refine wpAnyL_one (i := 9) rfl (by kernel_rfl) (by kernel_rfl) hClosed (fun KK hK => ?_)
      go_simp
      refine (cmpE_at X Y _).mono ?_
      rintro e wq ⟨rfl, hwq⟩
      go_wp2_with fail
      refine hK.out _ _ ?_ (fun hClosed hHeld => ?_)
      · exact hHeld.later hwq
      clear hK KK
      (first | simp only [List.getElem_toArray, List.getElem_cons_succ, List.getElem_cons_zero, put_at, List.set] | (try simp only [put_at, List.set]))
      refine wtk (i := 10) (v := ?_) rfl hClosed (Or.inl ⟨by rfl, ?_⟩) hHeld (fun hClosed => ?_)
      rotate_left
      · intro wv hSw; go_simp; all_goals (with_reducible rfl)
      (try simp only [List.getElem_toArray, List.getElem_cons_succ, List.getElem_cons_zero, put_at, List.set])
      refine wpAnyL_last rfl (by kernel_rfl) (by kernel_rfl) (fun KK hK => ?_)
      go_simp
      refine hK.out _ _ ?_
      (try simp only [put_at, List.set])
      rw [HV.out]
      have ST2 := Lib.hid hHeld
      clear hHeld hClosed ST
      obtain ⟨q, hq⟩ : ∃ q, (!decide (v < 0)) = q := ⟨_, rfl⟩
      rw [hq]
      have NXQ : Hid (if q = true then bsR PD (h + 1) j = r else bsR PD i h = r) := Lib.hid (by
        cases q with
        | true => exact NXT.out hq
        | false => exact NXF.out hq)
      clear NXT NXF HV hq
      cases q with
      | true =>
        have NX : Hid (SrW w0 B g n c d wq ∧ bsR PD (h + 1) j = r) := Lib.hid ⟨ST2.out, NXQ.out⟩
        clear NXQ ST2
        go_wp2_with fail
        go_roundw
        case rel => exact ⟨h + 1, j, by first | rfl | go_num, by first | rfl | go_num, by omega, by omega, by omega, NX⟩
        case measure => simp [intV]; omega
      | false =>
        have NX : Hid (SrW w0 B g n c d wq ∧ bsR PD i h = r) := Lib.hid ⟨ST2.out, NXQ.out⟩
        clear NXQ ST2
        go_wp2_with fail
        go_roundw
        case rel => exact ⟨i, h, by first | rfl | go_num, by first | rfl | go_num, by omega, by omega, by omega, NX⟩
        case measure => simp [intV]; omega
    · have d1 : decide ((i : Int) < (j : Int)) = false := decide_eq_false (by omega)
      have hji : j = i := by omega
      subst hji
      have hr : j = r := by rw [← HS.out.2, bsR_end (by omega)]
      subst hr
      have ST := Lib.hid HS.out.1
      clear HS
      have ST0 : Hid (SrW w0 B g n c d wr ∧ dnS j m d = F) := Lib.hid ⟨ST.out, HFB.out.symm⟩
      clear ST HFB
      go_wp2_with fail
      go_loopw [17] (fun vk wr => ∃ (k : Nat) (d : Array En), vk = .int .i64 (k : Int) ∧ k ≤ m ∧ Hid (SrW w0 B g n c d wr ∧ dnS j k d = F)) (fun vk _ => (intV vk).toNat)
      case atStart => exact ⟨m, d, rfl, Nat.le_refl _, ST0⟩
      case round =>
        clear ST0 HPD
        obtain ⟨k, d, rfl, hkm, HS⟩ := hrel
        by_cases hjk : j < k
        · obtain ⟨k, rfl⟩ : ∃ q, k = q + 1 := ⟨k - 1, by omega⟩
          have d1 : decide (((k + 1 : Nat) : Int) > (j : Int)) = true := decide_eq_true (by omega)
          have d1' : decide ((j : Int) < ((k + 1 : Nat) : Int)) = true := d1
          have d1n : decide (j < k + 1) = true := decide_eq_true hjk
          have ST := Lib.hid HS.out.1
          have wk : IntKind.i64.wrap (((k + 1 : Nat) : Int) - 1) = (k : Int) := by rw [IntKind.wrap_i64]; omega
          obtain ⟨X, hX⟩ : ∃ e, d[k + 1]! = e := ⟨_, rfl⟩
          obtain ⟨Y, hY⟩ : ∃ e, d[k]! = e := ⟨_, rfl⟩
          have HX : Hid (d.toList[k + 1]? = some X) := Lib.hid (by rw [← hX]; exact get_some d (by rw [ST.out.len]; omega))
          have HY : Hid (d.toList[k]? = some Y) := Lib.hid (by rw [← hY]; exact get_some d (by rw [ST.out.len]; omega))
          have HDL : Hid (d.toList.length = n) := Lib.hid (by rw [Array.length_toList]; exact ST.out.len)
          have LN : Hid (∀ w', Own w' B 152 4 (some ⟨g, 0, none⟩) n c (flE enE ((d.toList.set (k + 1) Y).set k X)) → Only (fun k => k = g) w0 w' → SrW w0 B g n c (swp d (k + 1) k) w' ∧ dnS j k (swp d (k + 1) k) = F) := Lib.hid (fun w' q1 q2 => ⟨ST.out.swp (by omega) (by omega) HX.out HY.out q1 q2, by
            have h9 := HS.out.2
            unfold dnS at h9
            rw [if_pos hjk] at h9
            exact h9⟩)
          obtain ⟨kk, hkk⟩ : ∃ kk, k + 1 = kk := ⟨_, rfl⟩
          rw [hkk] at d1 d1' d1n wk HX LN hjk hkm ⊢
          have HKK := Lib.hid hkk
          have i0 : (0 : Int) ≤ (k : Int) := by omega
          have i1 : (k : Int) < (n : Int) := by omega
          have j0 : (0 : Int) ≤ (kk : Int) := by omega
          have j1 : (kk : Int) < (n : Int) := by omega
          have hkn2 : k < n := by omega
          have hkkn : kk < n := by omega
          clear hX hY HS hkk
          go_upto_region 23 with fail
          refine wp_region_lastM [15, 16, 17] (fun w' => Own w' B 152 4 (some ⟨g, 0, none⟩) n c (flE enE d.toList)) (by kernel_rfl) (ST.out.drew.own) (fun hHeld hClosed => ?_)
          refine wpAnyM_takeP (i := 0) (v := ?_) rfl (by kernel_rfl) (by kernel_rfl) (by kernel_rfl) (fun _ _ _ h => h) (by kernel_rfl) hClosed (Or.inl ⟨by rfl, ?_⟩) (fun _ => hHeld) (fun hClosed => ?_)
          rotate_left
          · intro wv hSw; go_simp; all_goals (with_reducible rfl)
          (try simp only [List.getElem_toArray, List.getElem_cons_zero, put_at, List.set])
          refine wpAnyM_takeP (i := 1) (v := ?_) rfl (by kernel_rfl) (by kernel_rfl) (by kernel_rfl) (fun _ _ _ h => h) (by kernel_rfl) hClosed (Or.inl ⟨by rfl, ?_⟩) (fun _ => hHeld) (fun hClosed => ?_)
          rotate_left
          · intro wv hSw; go_simp; all_goals (with_reducible rfl)
          (try simp only [List.getElem_toArray, List.getElem_cons_succ, List.getElem_cons_zero, put_at, List.set])
          refine wpAnyM_takeP (i := 2) (v := ?_) rfl (by kernel_rfl) (by kernel_rfl) (by kernel_rfl) (fun _ _ _ h => h) (by kernel_rfl) hClosed (Or.inl ⟨by rfl, ?_⟩) (fun _ => hHeld) (fun hClosed => ?_)
          rotate_left
          · intro wv hSw; go_simp; all_goals (with_reducible rfl)
          (try simp only [List.getElem_toArray, List.getElem_cons_succ, List.getElem_cons_zero, put_at, List.set])
          refine wpAnyM_takeP (i := 3) (v := ?_) rfl (by kernel_rfl) (by kernel_rfl) (by kernel_rfl) (fun _ _ _ h => h) (by kernel_rfl) hClosed (Or.inl ⟨by rfl, ?_⟩) (fun _ => hHeld) (fun hClosed => ?_)
          rotate_left
          · intro wv hSw; go_simp; all_goals (with_reducible rfl)
          (try simp only [List.getElem_toArray, List.getElem_cons_succ, List.getElem_cons_zero, put_at, List.set])
          refine wpAnyM_takeP (i := 4) (v := ?_) rfl (by kernel_rfl) (by kernel_rfl) (by kernel_rfl) (fun _ _ _ h => h) (by kernel_rfl) hClosed (Or.inl ⟨by rfl, ?_⟩) (fun _ => hHeld) (fun hClosed => ?_)
          rotate_left
          · intro wv hSw; go_simp; all_goals (with_reducible rfl)
          (try simp only [List.getElem_toArray, List.getElem_cons_succ, List.getElem_cons_zero, put_at, List.set])
          refine wpAnyM_takeP (i := 5) (v := ?_) rfl (by kernel_rfl) (by kernel_rfl) (by kernel_rfl) (fun _ _ _ h => h) (by kernel_rfl) hClosed (Or.inl ⟨by rfl, ?_⟩) (fun _ => hHeld) (fun hClosed => ?_)
          rotate_left
          · intro wv hSw; go_simp; all_goals (with_reducible rfl)
          (try simp only [List.getElem_toArray, List.getElem_cons_succ, List.getElem_cons_zero, put_at, List.set])
          refine wpAnyM_takeP (i := 6) (v := ?_) rfl (by kernel_rfl) (by kernel_rfl) (by kernel_rfl) (fun _ _ _ h => h) (by kernel_rfl) hClosed (Or.inl ⟨by rfl, ?_⟩) (fun _ => hHeld) (fun hClosed => ?_)
          rotate_left
          · intro wv hSw; go_simp; all_goals (with_reducible rfl)
          (try simp only [List.getElem_toArray, List.getElem_cons_succ, List.getElem_cons_zero, put_at, List.set])
          refine wpAnyM_takeP (i := 7) (v := ?_) rfl (by kernel_rfl) (by kernel_rfl) (by kernel_rfl) (fun _ _ _ h => h) (by kernel_rfl) hClosed (Or.inl ⟨by rfl, ?_⟩) (fun _ => hHeld) (fun hClosed => ?_)
          rotate_left
          · intro wv hSw; go_simp; all_goals (with_reducible rfl)
          (try simp only [List.getElem_toArray, List.getElem_cons_succ, List.getElem_cons_zero, put_at, List.set])
          refine wpAnyM_takeP (i := 8) (v := ?_) rfl (by kernel_rfl) (by kernel_rfl) (by kernel_rfl) (fun _ _ _ h => h) (by kernel_rfl) hClosed (Or.inl ⟨by rfl, ?_⟩) (fun _ => hHeld) (fun hClosed => ?_)
          rotate_left
          · intro wv hSw; go_simp; all_goals (with_reducible rfl)
          (try simp only [List.getElem_toArray, List.getElem_cons_succ, List.getElem_cons_zero, put_at, List.set])
          refine wpAnyM_take (i := 9) (v := .agg (enE Y).toArray) rfl (by kernel_rfl) (by kernel_rfl) (by kernel_rfl) (by kernel_rfl) (fun _ _ _ h => h) (by kernel_rfl) hClosed (Or.inl ⟨by rfl, ?_⟩) (fun _ => hHeld) (fun hClosed => ?_)
          · intro wv hSw; exact exec_load_at (by rfl) (by rfl) (own_elem enE_len hSw HY.out) Tryz.underlying152 rfl (by kernel_rfl)
          (try simp only [List.getElem_toArray, List.getElem_cons_succ, List.getElem_cons_zero, put_at, List.set])
          refine wpAnyM_takeP (i := 10) (v := ?_) rfl (by kernel_rfl) (by kernel_rfl) (by kernel_rfl) (fun _ _ _ h => h) (by kernel_rfl) hClosed (Or.inl ⟨by rfl, ?_⟩) (fun _ => hHeld) (fun hClosed => ?_)
          rotate_left
          · intro wv hSw; go_simp; all_goals (with_reducible rfl)
          (try simp only [List.getElem_toArray, List.getElem_cons_succ, List.getElem_cons_zero, put_at, List.set])
          refine wpAnyM_takeP (i := 11) (v := ?_) rfl (by kernel_rfl) (by kernel_rfl) (by kernel_rfl) (fun _ _ _ h => h) (by kernel_rfl) hClosed (Or.inl ⟨by rfl, ?_⟩) (fun _ => hHeld) (fun hClosed => ?_)
          rotate_left
          · intro wv hSw; go_simp; all_goals (with_reducible rfl)
          (try simp only [List.getElem_toArray, List.getElem_cons_succ, List.getElem_cons_zero, put_at, List.set])
          refine wpAnyM_takeP (i := 12) (v := ?_) rfl (by kernel_rfl) (by kernel_rfl) (by kernel_rfl) (fun _ _ _ h => h) (by kernel_rfl) hClosed (Or.inl ⟨by rfl, ?_⟩) (fun _ => hHeld) (fun hClosed => ?_)
          rotate_left
          · intro wv hSw; go_simp; all_goals (with_reducible rfl)
          (try simp only [List.getElem_toArray, List.getElem_cons_succ, List.getElem_cons_zero, put_at, List.set])
          refine wpAnyM_take (i := 13) (v := .agg (enE X).toArray) rfl (by kernel_rfl) (by kernel_rfl) (by kernel_rfl) (by kernel_rfl) (fun _ _ _ h => h) (by kernel_rfl) hClosed (Or.inl ⟨by rfl, ?_⟩) (fun _ => hHeld) (fun hClosed => ?_)
          · intro wv hSw; exact exec_load_at (by rfl) (by rfl) (own_elem enE_len hSw HX.out) Tryz.underlying152 rfl (by kernel_rfl)
          (try simp only [List.getElem_toArray, List.getElem_cons_succ, List.getElem_cons_zero, put_at, List.set])
          refine wpAnyM_takeP (i := 14) (v := ?_) rfl (by kernel_rfl) (by kernel_rfl) (by kernel_rfl) (fun _ _ _ h => h) (by kernel_rfl) hClosed (Or.inl ⟨by rfl, ?_⟩) (fun _ => hHeld) (fun hClosed => ?_)
          rotate_left
          · intro wv hSw; go_simp; all_goals (with_reducible rfl)
          (try simp only [List.getElem_toArray, List.getElem_cons_succ, List.getElem_cons_zero, put_at, List.set])
          refine wpAnyM_end (i := 15) rfl (by kernel_rfl) (by kernel_rfl) hClosed (fun KK hK => ?_)
          refine step_storeE rfl rfl rfl rfl enE_len enE_one (by kernel_rfl) hHeld HDL.out hkkn ?_
          intro w1 p1 p2 p3
          refine hK.out _ _ (fun hClosed => ?_)
          clear hK KK
          (try simp only [List.getElem_toArray, List.getElem_cons_succ, List.getElem_cons_zero, put_at, List.set])
          refine wpAnyM_end (i := 16) rfl (by kernel_rfl) (by kernel_rfl) hClosed (fun KK hK => ?_)
          go_simp
          refine hK.out _ _ (fun hClosed => ?_)
          clear hK KK
          (try simp only [List.getElem_toArray, List.getElem_cons_succ, List.getElem_cons_zero, put_at, List.set])
          refine wpAnyM_end (i := 17) rfl (by kernel_rfl) (by kernel_rfl) hClosed (fun KK hK => ?_)
          refine step_storeE rfl rfl rfl rfl enE_len enE_one (by kernel_rfl) p1 (by rw [List.length_set]; exact HDL.out) hkn2 ?_
          intro w2 p4 p5 p6
          refine hK.out _ _ (fun hClosed => ?_)
          clear hK KK
          (try simp only [List.getElem_toArray, List.getElem_cons_succ, List.getElem_cons_zero, put_at, List.set])
          refine wpAnyM_over (by kernel_rfl) ?_
          have NX2 := Lib.hid (LN.out _ p4 (only_grown (only_grown ST.out.drew.only p2) p5))
          clear p1 p2 p3 p4 p5 p6 hClosed hHeld ST
          go_wp2_with fail
          go_roundw
          case rel => exact ⟨k, _, rfl, by have := HKK.out; omega, NX2⟩
          case measure => simp [intV]; have := HKK.out; omega
        · have d1 : decide ((k : Int) > (j : Int)) = false := decide_eq_false (by omega)
          have d1' : decide ((j : Int) < (k : Int)) = false := d1
          have FIN : Hid (SrW w0 B g n c F wr) := Lib.hid (by
            have h9 := HS.out.2
            have e9 : dnS j k d = d := by
              cases k with
              | zero => rfl
              | succ k => unfold dnS; rw [if_neg hjk]
            rw [e9] at h9
            exact h9 ▸ HS.out.1)
          clear HS
          go_wp2_with fail
          exact bodyPost_ret (results_none Tryz.results132 _ _ _) rfl ⟨rfl, FIN.out⟩
set_option maxHeartbeats 8000000 in
theorem sym_kc (f : Nat) {w0 : World} {B g n c : Nat} (hn : n ≤ 100000000)
    (ih : ∀ (a m b : Nat) {w : World} {d : Array En}, SrW w0 B g n c d w → a < m → m < b → b ≤ n → b - a ≤ f → Calls Tryz.prog 132 #[.slice (some ⟨g, 0, none⟩) n c, .int .i64 (a : Int), .int .i64 (m : Int), .int .i64 (b : Int), .func (.func 108) #[] #[]] w fun e w' => e = .returned (.tuple #[]) ∧ SrW w0 B g n c (sym ltE f d a m b) w')
    (a m b : Nat) {w : World} {d : Array En} (h : SrW w0 B g n c d w) (h1 : a < m) (h2 : m < b) (h3 : b ≤ n) (hf : b - a ≤ f + 1) (hA : ¬ m - a = 1) (hB : ¬ b - m = 1) :
    Calls Tryz.prog 132 #[.slice (some ⟨g, 0, none⟩) n c, .int .i64 (a : Int), .int .i64 (m : Int), .int .i64 (b : Int), .func (.func 108) #[] #[]] w fun e w' => e = .returned (.tuple #[]) ∧ SrW w0 B g n c (sym ltE (f + 1) d a m b) w' := by
  obtain ⟨F, hF⟩ : ∃ F, sym ltE (f + 1) d a m b = F := ⟨_, rfl⟩
  rw [hF]
  have IH := Lib.hid ih
  clear ih
  have ENT : ∀ args w, (callFunc 108 args).run Tryz.prog w = .ok (.enter 108 args) w := enters_of Tryz.func108 (by kernel_rfl) rfl
  have ST := Lib.hid h
  have HF := Lib.hid hF
  have wma : IntKind.i64.wrap ((m : Int) - (a : Int)) = ((m - a : Nat) : Int) := by rw [IntKind.wrap_i64]; omega
  have wbm : IntKind.i64.wrap ((b : Int) - (m : Int)) = ((b - m : Nat) : Int) := by rw [IntKind.wrap_i64]; omega
  clear h hF
  have dA : (((m - a : Nat) : Int) == 1) = false := beq_eq_false_iff_ne.2 (by omega)
  have dB : (((b - m : Nat) : Int) == 1) = false := beq_eq_false_iff_ne.2 (by omega)
  obtain ⟨mid, hmid⟩ : ∃ mid, (a + b) / 2 = mid := ⟨_, rfl⟩
  obtain ⟨nn, hnn⟩ : ∃ nn, mid + m = nn := ⟨_, rfl⟩
  obtain ⟨s0, hs0⟩ : ∃ s0, (if mid < m then nn - b else a) = s0 := ⟨_, rfl⟩
  obtain ⟨r0, hr0⟩ : ∃ r0, (if mid < m then mid else m) = r0 := ⟨_, rfl⟩
  obtain ⟨r, hr⟩ : ∃ r, symS ltE d a m b = r := ⟨_, rfl⟩
  obtain ⟨D1, hD1⟩ : ∃ D1, sym1 ltE d a m b = D1 := ⟨_, rfl⟩
  obtain ⟨D2, hD2⟩ : ∃ D2, (if a < r ∧ r < (a + b) / 2 then sym ltE f D1 a r ((a + b) / 2) else D1) = D2 := ⟨_, rfl⟩
  have HSI := Lib.hid (symS_in ltE d h1 h2)
  rw [hr, hmid] at HSI
  have HMID := Lib.hid hmid
  have HNN := Lib.hid hnn
  have HD1f : Hid (D1 = if r < m ∧ m < (a + b) / 2 + m - r then rot m d (m - r) ((a + b) / 2 + m - r - m) else d) := Lib.hid (by rw [← hD1]; unfold sym1; rw [hr])
  have HD2f : Hid (D2 = if a < r ∧ r < (a + b) / 2 then sym ltE f D1 a r ((a + b) / 2) else D1) := Lib.hid hD2.symm
  have HFf : Hid (F = if (a + b) / 2 < (a + b) / 2 + m - r ∧ (a + b) / 2 + m - r < b then sym ltE f D2 ((a + b) / 2) ((a + b) / 2 + m - r) b else D2) := Lib.hid (by rw [← HF.out, sym_c hA hB, hr, hD1, hD2])
  obtain ⟨PD, hPD⟩ : ∃ PD : Nat → Bool, (fun c => !ltE d[nn - 1 - c]! d[c]!) = PD := ⟨_, rfl⟩
  have HPD : Hid (∀ c, PD c = !ltE d[nn - 1 - c]! d[c]!) := Lib.hid (fun c => by rw [← hPD])
  have BS1 : Hid (bsR PD s0 r0 = r) := Lib.hid (by rw [← hr, ← hs0, ← hr0, ← hPD]; unfold symS; rw [hmid, hnn])
  have hsr : s0 ≤ r0 ∧ r0 ≤ m ∧ r0 ≤ mid ∧ a ≤ s0 ∧ nn ≤ b + s0 := by rw [← hs0, ← hr0]; split <;> omega
  have hm2 : ((a : Int) + (b : Int)) / 2 = (mid : Int) := by omega
  have wnn : IntKind.i64.wrap ((mid : Int) + (m : Int)) = (nn : Int) := by rw [IntKind.wrap_i64]; omega
  have HS0 := Lib.hid hs0
  have HR0 := Lib.hid hr0
  have hmb : mid < b ∧ a < mid ∧ mid < nn ∧ m < nn ∧ nn ≤ 2 * n := by omega
  have hfm : mid - a ≤ f ∧ b - mid ≤ f := by omega
  clear hmid hnn hs0 hr0 hr hD1 hD2 HF hPD
  go_enter Tryz.func132, Tryz.ntmps132
  go_upto_if 140 with fail
  go_cut [20, 21] (fun v20 v21 wc => v20 = .int .i64 (s0 : Int) ∧ v21 = .int .i64 (r0 : Int) ∧ wc = w)
  case first =>
    as_aux_lemma =>
      by_cases c0 : mid < m
      · have dc : decide ((m : Int) > (mid : Int)) = true := decide_eq_true (by omega)
        have dc' : decide ((mid : Int) < (m : Int)) = true := dc
        have dcn : decide (mid < m) = true := decide_eq_true c0
        have hs9 := HS0.out
        have hr9 := HR0.out
        rw [if_pos c0] at hs9 hr9
        have wnb : IntKind.i64.wrap ((nn : Int) - (b : Int)) = (s0 : Int) := by rw [IntKind.wrap_i64]; have := HNN.out; omega
        subst hr9
        clear hs9
        go_wp2_with fail
        go_meet
        exact ⟨rfl, rfl, rfl⟩
      · have dc : decide ((m : Int) > (mid : Int)) = false := decide_eq_false (by omega)
        have dc' : decide ((mid : Int) < (m : Int)) = false := dc
        have dcn : decide (mid < m) = false := decide_eq_false c0
        have hs9 := HS0.out
        have hr9 := HR0.out
        rw [if_neg c0] at hs9 hr9
        subst hs9
        subst hr9
        go_wp2_with fail
        go_meet
        exact ⟨rfl, rfl, rfl⟩
  case rest =>
  obtain ⟨rfl, rfl, rfl⟩ := hcut
  have BS0 : Hid (SrW w0 B g n c d wc ∧ bsR PD s0 r0 = r) := Lib.hid ⟨ST.out, BS1.out⟩
  have wp1 : IntKind.i64.wrap ((nn : Int) - 1) = ((nn - 1 : Nat) : Int) := by rw [IntKind.wrap_i64]; omega
  clear ST BS1 HS0 HR0
  go_wp2_with fail
  go_loopw [20, 21] (fun vi vj wr => ∃ (i j : Nat), vi = .int .i64 (i : Int) ∧ vj = .int .i64 (j : Int) ∧ s0 ≤ i ∧ i ≤ j ∧ j ≤ r0 ∧ Hid (SrW w0 B g n c d wr ∧ bsR PD i j = r)) (fun vi vj _ => (intV vj).toNat - (intV vi).toNat)
  case atStart => exact ⟨_, _, rfl, rfl, Nat.le_refl _, by omega, Nat.le_refl _, BS0⟩
  case round =>
    clear BS0
    obtain ⟨i, j, rfl, rfl, hlo, hij, hhi, HS⟩ := hrel
    by_cases hlt : i < j
    · have d1 : decide ((i : Int) < (j : Int)) = true := decide_eq_true (by omega)
      have d1n : decide (i < j) = true := decide_eq_true hlt
      obtain ⟨h, hh⟩ : ∃ h, (i + j) / 2 = h := ⟨_, rfl⟩
      have hh2 : ((i : Int) + (j : Int)) / 2 = (h : Int) := by omega
      have ST := Lib.hid HS.out.1
      have hxn : nn - 1 - h < n := by omega
      have hyn : h < n := by omega
      obtain ⟨X, hX⟩ : ∃ e, d[nn - 1 - h]! = e := ⟨_, rfl⟩
      obtain ⟨Y, hY⟩ : ∃ e, d[h]! = e := ⟨_, rfl⟩
      have HX : Hid (d.toList[nn - 1 - h]? = some X) := Lib.hid (by rw [← hX]; exact get_some d (by rw [ST.out.len]; exact hxn))
      have HY : Hid (d.toList[h]? = some Y) := Lib.hid (by rw [← hY]; exact get_some d (by rw [ST.out.len]; exact hyn))
      obtain ⟨v, hv⟩ : ∃ v, cmpE X Y = v := ⟨_, rfl⟩
      have HV := Lib.hid hv
      have hp : PD ((i + j) / 2) = !decide (v < 0) := by
        rw [hh, HPD.out, hX, hY]
        unfold ltE
        rw [hv]
      have NXT : Hid ((!decide (v < 0)) = true → bsR PD (h + 1) j = r) := Lib.hid (fun hv0 => by rw [← HS.out.2, bsR_go hlt, hp, if_pos hv0, hh])
      have NXF : Hid ((!decide (v < 0)) = false → bsR PD i h = r) := Lib.hid (fun hv0 => by rw [← HS.out.2, bsR_go hlt, hp, if_neg (by rw [hv0]; decide), hh])
      have x0 : (0 : Int) ≤ ((nn - 1 - h : Nat) : Int) := by omega
      have x1 : ((nn - 1 - h : Nat) : Int) < (n : Int) := by omega
      have y0 : (0 : Int) ≤ ((h : Nat) : Int) := by omega
      have y1 : ((h : Nat) : Int) < (n : Int) := by omega
      have hhj : h < j := by omega
      have hih : i ≤ h := by omega
      have wph : IntKind.i64.wrap (((nn - 1 : Nat) : Int) - (h : Int)) = ((nn - 1 - h : Nat) : Int) := by rw [IntKind.wrap_i64]; omega
      clear hX hY hp HS hv hh
      go_upto_region 35 with fail
      refine wp_region_last 13 (fun w' => SrW w0 B g n c d w') (by kernel_rfl) (ST.out.drew) (fun hHeld hClosed => ?_)
      refine wtk (i := 0) (v := ?_) rfl hClosed (Or.inl ⟨by rfl, ?_⟩) hHeld (fun hClosed => ?_)
      rotate_left
      · intro wv hSw; go_simp; all_goals (with_reducible rfl)
      (try simp only [List.getElem_toArray, List.getElem_cons_zero, put_at, List.set])
      refine wtk (i := 1) (v := ?_) rfl hClosed (Or.inl ⟨by rfl, ?_⟩) hHeld (fun hClosed => ?_)
      rotate_left
      · intro wv hSw; go_simp; all_goals (with_reducible rfl)
      (try simp only [List.getElem_toArray, List.getElem_cons_succ, List.getElem_cons_zero, put_at, List.set])
      refine wtk (i := 2) (v := ?_) rfl hClosed (Or.inl ⟨by rfl, ?_⟩) hHeld (fun hClosed => ?_)
      rotate_left
      · intro wv hSw; go_simp; all_goals (with_reducible rfl)
      (try simp only [List.getElem_toArray, List.getElem_cons_succ, List.getElem_cons_zero, put_at, List.set])
      refine wtk (i := 3) (v := ?_) rfl hClosed (Or.inl ⟨by rfl, ?_⟩) hHeld (fun hClosed => ?_)
      rotate_left
      · intro wv hSw; go_simp; all_goals (with_reducible rfl)
      (try simp only [List.getElem_toArray, List.getElem_cons_succ, List.getElem_cons_zero, put_at, List.set])
      refine wtk (i := 4) (v := ?_) rfl hClosed (Or.inl ⟨by rfl, ?_⟩) hHeld (fun hClosed => ?_)
      rotate_left
      · intro wv hSw; go_simp; all_goals (with_reducible rfl)
      (try simp only [List.getElem_toArray, List.getElem_cons_succ, List.getElem_cons_zero, put_at, List.set])
      refine wtk (i := 5) (v := ?_) rfl hClosed (Or.inl ⟨by rfl, ?_⟩) hHeld (fun hClosed => ?_)
      rotate_left
      · intro wv hSw; go_simp; all_goals (with_reducible rfl)
      (try simp only [List.getElem_toArray, List.getElem_cons_succ, List.getElem_cons_zero, put_at, List.set])
      refine wtk (i := 6) (v := .agg (enE X).toArray) rfl hClosed (Or.inl ⟨by rfl, ?_⟩) hHeld (fun hClosed => ?_)
      · intro wv hSw; exact exec_load_at (by rfl) (by rfl) (own_elem enE_len hSw.own HX.out) Tryz.underlying152 rfl (by kernel_rfl)
      (try simp only [List.getElem_toArray, List.getElem_cons_succ, List.getElem_cons_zero, put_at, List.set])
      refine wtk (i := 7) (v := ?_) rfl hClosed (Or.inl ⟨by rfl, ?_⟩) hHeld (fun hClosed => ?_)
      rotate_left
      · intro wv hSw; go_simp; all_goals (with_reducible rfl)
      (try simp only [List.getElem_toArray, List.getElem_cons_succ, List.getElem_cons_zero, put_at, List.set])
      refine wtk (i := 8) (v := ?_) rfl hClosed (Or.inl ⟨by rfl, ?_⟩) hHeld (fun hClosed => ?_)
      rotate_left
      · intro wv hSw; go_simp; all_goals (with_reducible rfl)
      (try simp only [List.getElem_toArray, List.getElem_cons_succ, List.getElem_cons_zero, put_at, List.set])
      refine wtk (i := 9) (v := ?_) rfl hClosed (Or.inl ⟨by rfl, ?_⟩) hHeld (fun hClosed => ?_)
      rotate_left
      · intro wv hSw; go_simp; all_goals (with_reducible rfl)
      (try simp only [List.getElem_toArray, List.getElem_cons_succ, List.getElem_cons_zero, put_at, List.set])
      refine wtk (i := 10) (v := .agg (enE Y).toArray) rfl hClosed (Or.inl ⟨by rfl, ?_⟩) hHeld (fun hClosed => ?_)
      · intro wv hSw; exact exec_load_at (by rfl) (by rfl) (own_elem enE_len hSw.own HY.out) Tryz.underlying152 rfl (by kernel_rfl)
      (try simp only [List.getElem_toArray, List.getElem_cons_succ, List.getElem_cons_zero, put_at, List.set])
      refine wpAnyL_one (i := 11) rfl (by kernel_rfl) (by kernel_rfl) hClosed (fun KK hK => ?_)
      go_simp
      refine (cmpE_at X Y _).mono ?_
      rintro e wq ⟨rfl, hwq⟩
      go_wp2_with fail
      refine hK.out _ _ ?_ (fun hClosed hHeld => ?_)
      · exact hHeld.later hwq
      clear hK KK
      (first | simp only [List.getElem_toArray, List.getElem_cons_succ, List.getElem_cons_zero, put_at, List.set] | (try simp only [put_at, List.set]))
      refine wtk (i := 12) (v := ?_) rfl hClosed (Or.inl ⟨by rfl, ?_⟩) hHeld (fun hClosed => ?_)
      rotate_left
      · intro wv hSw; go_simp; all_goals (with_reducible rfl)
      (try simp only [List.getElem_toArray, List.getElem_cons_succ, List.getElem_cons_zero, put_at, List.set])
      refine wpAnyL_last rfl (by kernel_rfl) (by kernel_rfl) (fun KK hK => ?_)
      go_simp
      refine hK.out _ _ ?_
      (try simp only [put_at, List.set])
      rw [HV.out]
      have ST2 := Lib.hid hHeld
      clear hHeld hClosed ST
      obtain ⟨q, hq⟩ : ∃ q, (!decide (v < 0)) = q := ⟨_, rfl⟩
      rw [hq]
      have NXQ : Hid (if q = true then bsR PD (h + 1) j = r else bsR PD i h = r) := Lib.hid (by
        cases q with
        | true => exact NXT.out hq
        | false => exact NXF.out hq)
      clear NXT NXF HV hq
      cases q with
      | true =>
        have NX : Hid (SrW w0 B g n c d wq ∧ bsR PD (h + 1) j = r) := Lib.hid ⟨ST2.out, NXQ.out⟩
        clear NXQ ST2
        go_wp2_with fail
        go_roundw
        case rel => exact ⟨h + 1, j, by first | rfl | go_num, by first | rfl | go_num, by omega, by omega, by omega, NX⟩
        case measure => simp [intV]; omega
      | false =>
        have NX : Hid (SrW w0 B g n c d wq ∧ bsR PD i h = r) := Lib.hid ⟨ST2.out, NXQ.out⟩
        clear NXQ ST2
        go_wp2_with fail
        go_roundw
        case rel => exact ⟨i, h, by first | rfl | go_num, by first | rfl | go_num, by omega, by omega, by omega, NX⟩
        case measure => simp [intV]; omega
    · have d1 : decide ((i : Int) < (j : Int)) = false := decide_eq_false (by omega)
      have hji : j = i := by omega
      subst hji
      have hr : j = r := by rw [← HS.out.2, bsR_end (by omega)]
      subst hr
      have ST := Lib.hid HS.out.1
      clear HS
      have hjs : a ≤ j ∧ j ≤ m ∧ j ≤ mid ∧ nn - j ≤ b := by have := HSI.out; have := HNN.out; omega
      obtain ⟨e, he⟩ : ∃ e, nn - j = e := ⟨_, rfl⟩
      have wne : IntKind.i64.wrap ((nn : Int) - (j : Int)) = (e : Int) := by rw [IntKind.wrap_i64]; have := HNN.out; omega
      have hme : m ≤ e ∧ e ≤ b ∧ mid ≤ e := by have := HNN.out; omega
      have HD1 : Hid (D1 = if j < m ∧ m < e then rot m d (m - j) (e - m) else d) := Lib.hid (by rw [HD1f.out, HMID.out, HNN.out, he])
      have HD2 : Hid (D2 = if a < j ∧ j < mid then sym ltE f D1 a j mid else D1) := Lib.hid (by rw [HD2f.out, HMID.out])
      have HFF : Hid (F = if mid < e ∧ e < b then sym ltE f D2 mid e b else D2) := Lib.hid (by rw [HFf.out, HMID.out, HNN.out, he])
      have p1 := pm_sym1 ltE d h1 h2 (by rw [ST.out.len]; exact h3)
      clear HD1f HD2f HFf HSI
      have hnn0 := HNN.out
      clear he
      obtain ⟨Q1, hQ1⟩ : ∃ q, decide (j < m ∧ m < e) = q := ⟨_, rfl⟩
      go_upto_region 39 with fail
      go_cut [185] (fun v wx => v = .bool Q1 ∧ wx = wr)
      case first =>
        as_aux_lemma =>
          by_cases c1 : j < m
          · have dc1 : decide ((j : Int) < (m : Int)) = true := decide_eq_true (by omega)
            have dc1n : decide (j < m) = true := decide_eq_true c1
            by_cases c2 : m < e
            · have dc2 : decide ((m : Int) < (e : Int)) = true := decide_eq_true (by omega)
              have dc2n : decide (m < e) = true := decide_eq_true c2
              obtain rfl : true = Q1 := by rw [← hQ1]; exact (decide_eq_true ⟨c1, c2⟩).symm
              go_wp2_with fail
              go_meet
              exact ⟨rfl, rfl⟩
            · have dc2 : decide ((m : Int) < (e : Int)) = false := decide_eq_false (by omega)
              have dc2n : decide (m < e) = false := decide_eq_false c2
              obtain rfl : false = Q1 := by rw [← hQ1]; exact (decide_eq_false (fun h => c2 h.2)).symm
              go_wp2_with fail
              go_meet
              exact ⟨rfl, rfl⟩
          · have dc1 : decide ((j : Int) < (m : Int)) = false := decide_eq_false (by omega)
            have dc1n : decide (j < m) = false := decide_eq_false c1
            obtain rfl : false = Q1 := by rw [← hQ1]; exact (decide_eq_false (fun h => c1 h.1)).symm
            go_wp2_with fail
            go_meet
            exact ⟨rfl, rfl⟩
      case rest =>
      obtain ⟨rfl, he1⟩ := hcut
      have he1 := he1.symm
      subst he1
      go_upto_if 185 with fail
      go_cut [] (fun wc => Hid (SrW w0 B g n c D1 wc))
      case first =>
        as_aux_lemma =>
          cases Q1 with
          | true =>
            have hc := of_decide_eq_true hQ1
            have RO := Lib.hid (rotate_at j m e ST.out hc.1 hc.2 (by omega) hn (.func (.func 108) #[] #[]))
            have HE := HD1.out
            rw [if_pos hc] at HE
            have HE := Lib.hid HE
            go_wp2_with fail
            refine RO.out.mono ?_
            rintro e9 w2 ⟨rfl, hw2⟩
            have W2 : Hid (SrW w0 B g n c D1 w2) := Lib.hid (by rw [HE.out]; exact hw2)
            clear hw2 RO
            go_wp2_with fail
            go_meet
            exact W2
          | false =>
            have hc := of_decide_eq_false hQ1
            have HE := HD1.out
            rw [if_neg hc] at HE
            have W2 : Hid (SrW w0 B g n c D1 wr) := Lib.hid (by rw [HE]; exact ST.out)
            clear HE
            go_wp2_with fail
            go_meet
            exact W2
      case rest =>
      have S1 := hcut
      clear hcut ST HD1 hQ1
      obtain ⟨Q2, hQ2⟩ : ∃ q, decide (a < j ∧ j < mid) = q := ⟨_, rfl⟩
      go_upto_region 41 with fail
      go_cut [199] (fun v wx => v = .bool Q2 ∧ wx = wc)
      case first =>
        as_aux_lemma =>
          by_cases c1 : a < j
          · have dc1 : decide ((a : Int) < (j : Int)) = true := decide_eq_true (by omega)
            have dc1n : decide (a < j) = true := decide_eq_true c1
            by_cases c2 : j < mid
            · have dc2 : decide ((j : Int) < (mid : Int)) = true := decide_eq_true (by omega)
              have dc2n : decide (j < mid) = true := decide_eq_true c2
              obtain rfl : true = Q2 := by rw [← hQ2]; exact (decide_eq_true ⟨c1, c2⟩).symm
              go_wp2_with fail
              go_meet
              exact ⟨rfl, rfl⟩
            · have dc2 : decide ((j : Int) < (mid : Int)) = false := decide_eq_false (by omega)
              have dc2n : decide (j < mid) = false := decide_eq_false c2
              obtain rfl : false = Q2 := by rw [← hQ2]; exact (decide_eq_false (fun h => c2 h.2)).symm
              go_wp2_with fail
              go_meet
              exact ⟨rfl, rfl⟩
          · have dc1 : decide ((a : Int) < (j : Int)) = false := decide_eq_false (by omega)
            have dc1n : decide (a < j) = false := decide_eq_false c1
            obtain rfl : false = Q2 := by rw [← hQ2]; exact (decide_eq_false (fun h => c1 h.1)).symm
            go_wp2_with fail
            go_meet
            exact ⟨rfl, rfl⟩
      case rest =>
      obtain ⟨rfl, he1⟩ := hcut
      have he1 := he1.symm
      subst he1
      go_upto_if 199 with fail
      go_cut [] (fun wc => Hid (SrW w0 B g n c D2 wc))
      case first =>
        as_aux_lemma =>
          cases Q2 with
          | true =>
            have hc := of_decide_eq_true hQ2
            have RO := Lib.hid (IH.out a j mid S1.out hc.1 hc.2 (by omega) (by omega))
            have HE := HD2.out
            rw [if_pos hc] at HE
            have HE := Lib.hid HE
            go_wp2_with fail
            refine RO.out.mono ?_
            rintro e9 w2 ⟨rfl, hw2⟩
            have W2 : Hid (SrW w0 B g n c D2 w2) := Lib.hid (by rw [HE.out]; exact hw2)
            clear hw2 RO
            go_wp2_with fail
            go_meet
            exact W2
          | false =>
            have hc := of_decide_eq_false hQ2
            have HE := HD2.out
            rw [if_neg hc] at HE
            have W2 : Hid (SrW w0 B g n c D2 wc) := Lib.hid (by rw [HE]; exact S1.out)
            clear HE
            go_wp2_with fail
            go_meet
            exact W2
      case rest =>
      have S2 := hcut
      clear hcut S1 HD2 hQ2
      obtain ⟨Q3, hQ3⟩ : ∃ q, decide (mid < e ∧ e < b) = q := ⟨_, rfl⟩
      go_upto_region 43 with fail
      go_cut [213] (fun v wx => v = .bool Q3 ∧ wx = wc)
      case first =>
        as_aux_lemma =>
          by_cases c1 : mid < e
          · have dc1 : decide ((mid : Int) < (e : Int)) = true := decide_eq_true (by omega)
            have dc1n : decide (mid < e) = true := decide_eq_true c1
            by_cases c2 : e < b
            · have dc2 : decide ((e : Int) < (b : Int)) = true := decide_eq_true (by omega)
              have dc2n : decide (e < b) = true := decide_eq_true c2
              obtain rfl : true = Q3 := by rw [← hQ3]; exact (decide_eq_true ⟨c1, c2⟩).symm
              go_wp2_with fail
              go_meet
              exact ⟨rfl, rfl⟩
            · have dc2 : decide ((e : Int) < (b : Int)) = false := decide_eq_false (by omega)
              have dc2n : decide (e < b) = false := decide_eq_false c2
              obtain rfl : false = Q3 := by rw [← hQ3]; exact (decide_eq_false (fun h => c2 h.2)).symm
              go_wp2_with fail
              go_meet
              exact ⟨rfl, rfl⟩
          · have dc1 : decide ((mid : Int) < (e : Int)) = false := decide_eq_false (by omega)
            have dc1n : decide (mid < e) = false := decide_eq_false c1
            obtain rfl : false = Q3 := by rw [← hQ3]; exact (decide_eq_false (fun h => c1 h.1)).symm
            go_wp2_with fail
            go_meet
            exact ⟨rfl, rfl⟩
      case rest =>
      obtain ⟨rfl, he1⟩ := hcut
      have he1 := he1.symm
      subst he1
      cases Q3 with
      | true =>
        have hc := of_decide_eq_true hQ3
        have RO := Lib.hid (IH.out mid e b S2.out hc.1 hc.2 h3 (by omega))
        have HE := HFF.out
        rw [if_pos hc] at HE
        have HE := Lib.hid HE
        go_wp2_with fail
        refine RO.out.mono ?_
        rintro e9 w2 ⟨rfl, hw2⟩
        have W2 : Hid (SrW w0 B g n c F w2) := Lib.hid (by rw [HE.out]; exact hw2)
        clear hw2 RO
        go_wp2_with fail
        go_end0
        exact ⟨rfl, W2.out⟩
      | false =>
        have hc := of_decide_eq_false hQ3
        have HE := HFF.out
        rw [if_neg hc] at HE
        have W2 : Hid (SrW w0 B g n c F wc) := Lib.hid (by rw [HE]; exact S2.out)
        clear HE
        go_wp2_with fail
        go_end0
        exact ⟨rfl, W2.out⟩
set_option maxHeartbeats 8000000 in
theorem sym_step (f : Nat) {w0 : World} {B g n c : Nat} (hn : n ≤ 100000000)
    (ih : ∀ (a m b : Nat) {w : World} {d : Array En}, SrW w0 B g n c d w → a < m → m < b → b ≤ n → b - a ≤ f → Calls Tryz.prog 132 #[.slice (some ⟨g, 0, none⟩) n c, .int .i64 (a : Int), .int .i64 (m : Int), .int .i64 (b : Int), .func (.func 108) #[] #[]] w fun e w' => e = .returned (.tuple #[]) ∧ SrW w0 B g n c (sym ltE f d a m b) w')
    (a m b : Nat) {w : World} {d : Array En} (h : SrW w0 B g n c d w) (h1 : a < m) (h2 : m < b) (h3 : b ≤ n) (hf : b - a ≤ f + 1) :
    Calls Tryz.prog 132 #[.slice (some ⟨g, 0, none⟩) n c, .int .i64 (a : Int), .int .i64 (m : Int), .int .i64 (b : Int), .func (.func 108) #[] #[]] w fun e w' => e = .returned (.tuple #[]) ∧ SrW w0 B g n c (sym ltE (f + 1) d a m b) w' := by
  by_cases hA : m - a = 1
  · exact sym_ka f hn ih a m b h h1 h2 h3 hf hA
  · by_cases hB : b - m = 1
    · exact sym_kb f hn ih a m b h h1 h2 h3 hf hA hB
    · exact sym_kc f hn ih a m b h h1 h2 h3 hf hA hB
theorem sym_at : ∀ (f : Nat) {w0 : World} {B g n c : Nat} (hn : n ≤ 100000000) (a m b : Nat) {w : World} {d : Array En} (h : SrW w0 B g n c d w) (h1 : a < m) (h2 : m < b) (h3 : b ≤ n) (hf : b - a ≤ f),
    Calls Tryz.prog 132 #[.slice (some ⟨g, 0, none⟩) n c, .int .i64 (a : Int), .int .i64 (m : Int), .int .i64 (b : Int), .func (.func 108) #[] #[]] w fun e w' => e = .returned (.tuple #[]) ∧ SrW w0 B g n c (sym ltE f d a m b) w'
  | 0, w0, B, g, n, c, hn, a, m, b, w, d, h, h1, h2, h3, hf => by omega
  | f + 1, w0, B, g, n, c, hn, a, m, b, w, d, h, h1, h2, h3, hf => sym_step f hn (fun a m b w d k1 k2 k3 k4 k5 => sym_at f hn a m b k1 k2 k3 k4 k5) a m b h h1 h2 h3 hf
end Go.Proofs.YtimkgaokcldgkaaGreatDoor
/- Sorting records: SortStableFunc. -/
namespace Go.Proofs.YtimkgaokcldgkaaGreatDoor
open Go Go.RowKit Go.Sort
set_option linter.unusedVariables false
set_option linter.unusedSimpArgs false
set_option maxRecDepth 100000

theorem blk_go {n a : Nat} {d : Array En} (h : a + 20 ≤ n) : blkS ltE n d a = blkS ltE n (insertionSort ltE d a (a + 20)) (a + 20) := by rw [blkS, if_pos h]
theorem blk_end {n a : Nat} {d : Array En} (h : ¬ a + 20 ≤ n) : blkS ltE n d a = insertionSort ltE d a n := by rw [blkS, if_neg h]
theorem pas_go {n s a : Nat} {d : Array En} (h : a + 2 * s ≤ n) (h0 : 0 < s) : pasS ltE n s d a = pasS ltE n s (sym ltE n d a (a + s) (a + 2 * s)) (a + 2 * s) := by rw [pasS, if_pos ⟨h, h0⟩]
theorem pas_end {n s a : Nat} {d : Array En} (h : ¬ a + 2 * s ≤ n) : pasS ltE n s d a = if a + s < n then sym ltE n d a (a + s) n else d := by rw [pasS, if_neg (fun e => h e.1)]
theorem out_go {n s : Nat} {d : Array En} (h : s < n) (h0 : 0 < s) : outS ltE n d s = outS ltE n (pasS ltE n s d 0) (2 * s) := by rw [outS, if_pos ⟨h, h0⟩]
theorem out_end {n s : Nat} {d : Array En} (h : ¬ s < n) : outS ltE n d s = d := by rw [outS, if_neg (fun e => h e.1)]
set_option maxHeartbeats 4000000 in
theorem stable_at {w0 w : World} {B g n c : Nat} {d : Array En} (h : SrW w0 B g n c d w) (hn : n ≤ 10000000) :
    Calls Tryz.prog 119 #[.slice (some ⟨g, 0, none⟩) n c, .int .i64 (n : Int), .func (.func 108) #[] #[]] w fun e w' => e = .returned (.tuple #[]) ∧ SrW w0 B g n c (stabS ltE d) w' := by
  obtain ⟨F, hF⟩ : ∃ F, stabS ltE d = F := ⟨_, rfl⟩
  rw [hF]
  have ST : Hid (SrW w0 B g n c d w ∧ outS ltE n (blkS ltE n d 0) 20 = F) := Lib.hid ⟨h, by rw [← hF]; unfold stabS; rw [h.len]⟩
  clear h hF
  go_enter Tryz.func119, Tryz.ntmps119
  go_wp2_with fail
  go_loopw [7, 8] (fun va vb wr => ∃ (a : Nat) (d : Array En), va = .int .i64 (a : Int) ∧ vb = .int .i64 ((a : Int) + 20) ∧ a ≤ n ∧ Hid (SrW w0 B g n c d wr ∧ outS ltE n (blkS ltE n d a) 20 = F)) (fun va _ _ => n - (intV va).toNat)
  case atStart => exact ⟨0, d, rfl, rfl, Nat.zero_le _, ST⟩
  case round =>
    clear ST d
    obtain ⟨a, d, rfl, rfl, ha, HS⟩ := hrel
    by_cases hb : a + 20 ≤ n
    · have d1 : decide ((a : Int) + 20 ≤ (n : Int)) = true := decide_eq_true (by omega)
      have IS := Lib.hid (ins_at a (a + 20) HS.out.1 (by omega) hb (by omega))
      have e20 : (((a + 20 : Nat) : Int)) = (a : Int) + 20 := by omega
      rw [e20] at IS
      have HE : Hid (outS ltE n (blkS ltE n (insertionSort ltE d a (a + 20)) (a + 20)) 20 = F) := Lib.hid (by rw [← blk_go hb]; exact HS.out.2)
      have hz : (a : Int) + 20 ≤ (n : Int) := by omega
      have w20 : IntKind.i64.wrap ((a : Int) + 20 + 20) = (a : Int) + 20 + 20 := by rw [IntKind.wrap_i64]; omega
      clear HS e20
      go_wp2_with fail
      refine IS.out.mono ?_
      rintro e w2 ⟨rfl, hw2⟩
      have NX := Lib.hid (And.intro hw2 HE.out)
      clear hw2 IS HE
      go_wp2_with fail
      go_roundw
      case rel => exact ⟨a + 20, _, by go_num, by go_num, hb, NX⟩
      case measure => simp [intV]; omega
    · have d1 : decide ((a : Int) + 20 ≤ (n : Int)) = false := decide_eq_false (by omega)
      have hz : ¬ (a : Int) + 20 ≤ (n : Int) := by omega
      have IS := Lib.hid (ins_at a n HS.out.1 ha (Nat.le_refl _) (by omega))
      have HE : Hid (outS ltE n (insertionSort ltE d a n) 20 = F) := Lib.hid (by rw [← blk_end hb]; exact HS.out.2)
      clear HS
      go_wp2_with fail
      refine IS.out.mono ?_
      rintro e w2 ⟨rfl, hw2⟩
      have ST := Lib.hid (And.intro hw2 HE.out)
      clear hw2 IS HE hb hz d1 ha
      go_wp2_with fail
      go_loopw [6] (fun vs wr => ∃ (s : Nat) (d : Array En), vs = .int .i64 (s : Int) ∧ 0 < s ∧ s ≤ 2 * n + 20 ∧ Hid (SrW w0 B g n c d wr ∧ outS ltE n d s = F)) (fun vs _ => 2 * n + 20 - (intV vs).toNat)
      case atStart => exact ⟨20, _, rfl, by decide, by omega, ST⟩
      case round =>
        clear ST
        obtain ⟨s, d, rfl, hs0, hsn, HS⟩ := hrel
        by_cases hlt : s < n
        · have d1 : decide ((s : Int) < (n : Int)) = true := decide_eq_true (by omega)
          have d1n : decide (s < n) = true := decide_eq_true hlt
          have w2s : IntKind.i64.wrap (2 * (s : Int)) = ((2 * s : Nat) : Int) := by rw [IntKind.wrap_i64]; omega
          have ws2 : IntKind.i64.wrap ((s : Int) * 2) = ((2 * s : Nat) : Int) := by rw [IntKind.wrap_i64]; omega
          have ST : Hid (SrW w0 B g n c d wr ∧ outS ltE n (pasS ltE n s d 0) (2 * s) = F) := Lib.hid ⟨HS.out.1, by rw [← out_go hlt hs0]; exact HS.out.2⟩
          clear HS
          go_wp2_with fail
          go_loopw [7, 8] (fun va vb wr => ∃ (a b : Nat) (d : Array En), va = .int .i64 (a : Int) ∧ vb = .int .i64 (b : Int) ∧ a + 2 * s = b ∧ a ≤ n ∧ Hid (SrW w0 B g n c d wr ∧ outS ltE n (pasS ltE n s d a) (2 * s) = F)) (fun va _ _ => n - (intV va).toNat)
          case atStart => exact ⟨0, 2 * s, d, rfl, rfl, by omega, Nat.zero_le _, ST⟩
          case round =>
            clear ST d
            obtain ⟨a, b, d, rfl, rfl, hab, ha, HS⟩ := hrel
            by_cases hb : b ≤ n
            · have d2 : decide ((b : Int) ≤ (n : Int)) = true := decide_eq_true (by omega)
              have d2n : decide (b ≤ n) = true := decide_eq_true hb
              have was : IntKind.i64.wrap ((a : Int) + (s : Int)) = ((a + s : Nat) : Int) := by rw [IntKind.wrap_i64]; omega
              have wbs : IntKind.i64.wrap ((b : Int) + ((2 * s : Nat) : Int)) = ((b + 2 * s : Nat) : Int) := by rw [IntKind.wrap_i64]; omega
              have SY := Lib.hid (sym_at n (by omega) a (a + s) b HS.out.1 (by omega) (by omega) hb (by omega))
              have HE : Hid (outS ltE n (pasS ltE n s (sym ltE n d a (a + s) b) b) (2 * s) = F) := Lib.hid (by
                have h9 := HS.out.2
                rw [pas_go (by omega) hs0, hab] at h9
                exact h9)
              clear HS
              go_wp2_with fail
              refine SY.out.mono ?_
              rintro e w2 ⟨rfl, hw2⟩
              have NX := Lib.hid (And.intro hw2 HE.out)
              clear hw2 SY HE
              go_wp2_with fail
              go_roundw
              case rel => exact ⟨b, b + 2 * s, _, rfl, rfl, by omega, hb, NX⟩
              case measure => simp [intV]; omega
            · have d2 : decide ((b : Int) ≤ (n : Int)) = false := decide_eq_false (by omega)
              have d2n : decide (b ≤ n) = false := decide_eq_false hb
              have was : IntKind.i64.wrap ((a : Int) + (s : Int)) = ((a + s : Nat) : Int) := by rw [IntKind.wrap_i64]; omega
              have HS2 : Hid (SrW w0 B g n c d wr ∧ outS ltE n (if a + s < n then sym ltE n d a (a + s) n else d) (2 * s) = F) := Lib.hid ⟨HS.out.1, by rw [← pas_end (by omega)]; exact HS.out.2⟩
              clear HS
              obtain ⟨m, hm⟩ : ∃ m, a + s = m := ⟨_, rfl⟩
              rw [hm] at was HS2
              by_cases hmn : m < n
              · have d3 : decide ((m : Int) < (n : Int)) = true := decide_eq_true (by omega)
                have d3n : decide (m < n) = true := decide_eq_true hmn
                have SY := Lib.hid (sym_at n (by omega) a m n HS2.out.1 (by omega) hmn (Nat.le_refl _) (by omega))
                have HE : Hid (outS ltE n (sym ltE n d a m n) (2 * s) = F) := Lib.hid (by
                  have h9 := HS2.out.2
                  rw [if_pos hmn] at h9
                  exact h9)
                clear HS2
                go_wp2_with fail
                refine SY.out.mono ?_
                rintro e w2 ⟨rfl, hw2⟩
                have NX := Lib.hid (And.intro hw2 HE.out)
                clear hw2 SY HE
                go_wp2_with fail
                go_roundw
                case rel => exact ⟨2 * s, _, rfl, by omega, by omega, NX⟩
                case measure => simp [intV]; omega
              · have d3 : decide ((m : Int) < (n : Int)) = false := decide_eq_false (by omega)
                have d3n : decide (m < n) = false := decide_eq_false hmn
                have NX : Hid (SrW w0 B g n c d wr ∧ outS ltE n d (2 * s) = F) := Lib.hid ⟨HS2.out.1, by
                  have h9 := HS2.out.2
                  rw [if_neg hmn] at h9
                  exact h9⟩
                clear HS2
                go_wp2_with fail
                go_roundw
                case rel => exact ⟨2 * s, _, rfl, by omega, by omega, NX⟩
                case measure => simp [intV]; omega
        · have d1 : decide ((s : Int) < (n : Int)) = false := decide_eq_false (by omega)
          have d1n : decide (s < n) = false := decide_eq_false hlt
          have FIN : Hid (SrW w0 B g n c F wr) := Lib.hid (by
            have h9 := HS.out.2
            rw [out_end hlt] at h9
            exact h9 ▸ HS.out.1)
          clear HS
          go_wp2_with fail
          go_end0
          exact ⟨rfl, FIN.out⟩
theorem sortStable_at {w0 w : World} {B g n c : Nat} {d : Array En} (h : SrW w0 B g n c d w) (hn : n ≤ 10000000) :
    Calls Tryz.prog 107 #[.slice (some ⟨g, 0, none⟩) n c, .func (.func 108) #[] #[]] w fun e w' => e = .returned (.tuple #[]) ∧ SrW w0 B g n c (stabS ltE d) w' := by
  have SB := Lib.hid (stable_at h hn)
  clear h
  go_enter Tryz.func107, Tryz.ntmps107
  go_wp2_with fail
  refine SB.out.mono ?_
  rintro e w2 ⟨rfl, hw2⟩
  have W2 := Lib.hid hw2
  clear hw2 SB
  go_wp2_with fail
  go_end0
  exact ⟨rfl, W2.out⟩
end Go.Proofs.YtimkgaokcldgkaaGreatDoor
/- Package spill: records' closure that keeps a record. -/
namespace Go.Proofs.YtimkgaokcldgkaaGreatDoor
open Go Go.RowKit Go.Maps
set_option linter.unusedVariables false
set_option linter.unusedSimpArgs false
set_option maxRecDepth 100000

theorem rowRc : RowTy Tryz.prog 149 152 4 48 := ⟨Tryz.underlying149, ⟨.agg #[.int .i64 0, .int .i64 0, .int .i64 0, .slice none 0 0], by kernel_rfl, rfl⟩, by decide⟩
/-- Encode, sound or not. -/
theorem kenc_at (r : Rc) (w : World) : Calls Tryz.prog 26 #[.agg (recL r).toArray] w fun e w' => ∃ a c k, e = .returned (.tuple #[.slice a (encO r).length c, .int .i64 k]) ∧ Own w' w.heap.size 5 1 a (encO r).length c (u8L (encO r)) ∧ Below w.heap.size w w' ∧ ((soundR r ∧ k = 0) ∨ (¬ soundR r ∧ k = 2)) := by
  by_cases h : soundR r
  · refine (enc_yes r w h).mono ?_
    rintro e w' ⟨a, c, rfl, ho, hb⟩
    rw [show encO r = encR r by unfold encO; rw [if_pos h]]
    exact ⟨a, c, 0, rfl, ho, hb, Or.inl ⟨h, rfl⟩⟩
  · refine (enc_no r w h).mono ?_
    rintro e w' ⟨rfl, hb⟩
    rw [show encO r = [] by unfold encO; rw [if_neg h]]
    exact ⟨none, 0, 2, rfl, Own.nil _ _ _ _, hb, Or.inr ⟨h, rfl⟩⟩
/-- Records under way: the list in its box, each with its bytes. -/
structure RecM (w : World) (B lb n c : Nat) (a : Option Addr) (es : List En) : Prop where
  box : Box w lb #[.slice a n c] 149
  own : Own w B 152 4 a n c (flE enE es)
  len : es.length = n
  byt : ∀ e ∈ es, e.b.length = e.n ∧ Own w B 5 1 e.a e.n e.c (u8L e.b)
  ne : es.Pairwise fun x y => ∀ g, x.a = some ⟨g, 0, none⟩ → y.a ≠ some ⟨g, 0, none⟩
  lB : B ≤ lb
theorem RecM.later {w w' : World} {B lb n c : Nat} {a : Option Addr} {es : List En} (h : RecM w B lb n c a es) (hb : Below w.heap.size w w') : RecM w' B lb n c a es :=
  ⟨h.box.later hb, h.own.later hb, h.len, fun e he => ⟨(h.byt e he).1, (h.byt e he).2.later hb⟩, h.ne, h.lB⟩
theorem flE_snoc (l : List En) (x : En) : flE enE l ++ enE x = flE enE (l ++ [x]) := by unfold flE; simp
theorem RecM.grown {w w5 w6 : World} {B lb n c : Nat} {a : Option Addr} {es : List En} (h : RecM w B lb n c a es) {g c' : Nat} {x : En} (hx : x.b.length = x.n ∧ Own w B 5 1 x.a x.n x.c (u8L x.b)) (hxn : ∀ e ∈ es, ∀ g, e.a = some ⟨g, 0, none⟩ → x.a ≠ some ⟨g, 0, none⟩)
    (p1 : Own w5 B 152 4 (some ⟨g, 0, none⟩) (n + 1) c' (flE enE (es ++ [x]))) (p2 : w.grownBy w5 (a.map (·.block))) (p3 : w6 = w5.setCell ⟨lb, 0, none⟩ (.slice (some ⟨g, 0, none⟩) (n + 1) c')) (p4 : a.map (·.block) = some g ∨ w.heap.size ≤ g) :
    RecM w6 B lb (n + 1) c' (some ⟨g, 0, none⟩) (es ++ [x]) ∧ Only (fun k => k = lb ∨ a = some ⟨k, 0, none⟩) w w6 := by
  have hga : ∀ {k : Nat}, a.map (·.block) = some k → a = some ⟨k, 0, none⟩ := fun hk => own_block5 h.own hk
  have hlb : some lb ≠ a.map (·.block) := fun e => by
    have e2 := hga e.symm
    have h9 := h.own
    rw [e2] at h9
    exact own_not_box h9 h.box (by decide) rfl
  have hbx : Box w5 lb #[.slice a n c] 149 := (p2.block lb h.box.lt hlb).trans h.box
  have hglb : g ≠ lb := own_not_box p1 hbx (by decide)
  have ho : Only (fun k => k = lb ∨ a = some ⟨k, 0, none⟩) w w6 := by
    rw [p3]
    exact ((Only.of_grown (R := fun k => k = lb ∨ a = some ⟨k, 0, none⟩) p2 (fun k hk => Or.inr (hga hk))).setCell (Or.inl (Or.inl rfl)) _)
  have hby : ∀ e : En, Own w B 5 1 e.a e.n e.c (u8L e.b) → Own w6 B 5 1 e.a e.n e.c (u8L e.b) := fun e he => he.only ho (fun k hk => by
    rintro (hk2 | hk2)
    · subst hk2
      rw [hk] at he
      exact own_not_box he h.box (by decide) rfl
    · exact own_apart he h.own hk hk2 (by decide))
  refine ⟨⟨?_, ?_, by rw [List.length_append, h.len]; rfl, fun e he => ?_, ?_, h.lB⟩, ho⟩
  · rw [p3]
    exact hbx.set 0 _
  · rw [p3]
    exact p1.other (fun g' e => by injection e with e; injection e with e; rw [← e]; exact hglb) _
  · rcases List.mem_append.1 he with he | he
    · exact ⟨(h.byt e he).1, hby e (h.byt e he).2⟩
    · rw [List.mem_singleton] at he
      subst he
      exact ⟨hx.1, hby e hx.2⟩
  · rw [List.pairwise_append]
    refine ⟨h.ne, List.pairwise_singleton _ _, fun e he y hy => ?_⟩
    rw [List.mem_singleton] at hy
    subst hy
    exact hxn e he
set_option maxHeartbeats 2000000 in
theorem keep_at {w : World} {B lb n c : Nat} {a : Option Addr} {es : List En} (h : RecM w B lb n c a es) (hB : B ≤ w.heap.size) (hn : n ≤ 2000000) (p : Pl) (r : Rc) :
    Calls Tryz.prog 106 #[plV p, .int .i64 r.kind, .agg (reqL r).toArray, .pointer (some ⟨lb, 0, none⟩)] w fun e w' => e = .returned (.tuple #[]) ∧ ∃ (a' : Option Addr) (c' : Nat) (x : En), x.p = p ∧ x.b = encO r ∧ RecM w' B lb (n + 1) c' a' (es ++ [x]) ∧ Only (fun k => k = lb ∨ a = some ⟨k, 0, none⟩) w w' ∧ ∀ k, a' = some ⟨k, 0, none⟩ → a = some ⟨k, 0, none⟩ ∨ w.heap.size ≤ k := by
  have HM := Lib.hid h
  have KE := Lib.hid (fun W => kenc_at r W)
  obtain ⟨b, hb⟩ : ∃ b, encO r = b := ⟨_, rfl⟩
  obtain ⟨m, hm⟩ : ∃ m, b.length = m := ⟨_, rfl⟩
  have HBM : Hid (b.length = m) := Lib.hid hm
  rw [hb] at KE ⊢
  rw [hm] at KE
  obtain ⟨p1, p2, p3⟩ := p
  obtain ⟨r0, r1, r2, r3, r4, r5⟩ := r
  unfold plV plC reqL
  unfold recL reqL at KE
  dsimp only at KE ⊢
  clear hb hm h
  go_enter Tryz.func106, Tryz.ntmps106
  go_upto_region 1 with fail
  refine code_forget (fun W => Hid (Box W w.heap.size #[.int .i64 p1, .int .i64 p2, .int .i64 p3] 81) ∧ Hid (Box W (w.heap.size + 1) #[.int .i64 r1, .string r2, .string r3, .int .i64 r4, .int .i64 r5] 35) ∧ Hid (Below w.heap.size w W)) ⟨Lib.hid ((Box.new w _ _).alloc _), Lib.hid (by have h9 := Box.new (w.alloc (.cells #[.int .i64 p1, .int .i64 p2, .int .i64 p3] 81)) #[.int .i64 r1, .string r2, .string r3, .int .i64 r4, .int .i64 r5] 35; rw [World.size_alloc] at h9; exact h9), Lib.hid (((Below.refl w.heap.size w).alloc (Nat.le_refl _) _).alloc (by simp) _)⟩ ?_
  obtain ⟨pb, hpb⟩ : ∃ p, w.heap.size = p := ⟨_, rfl⟩
  obtain ⟨qb, hqb⟩ : ∃ q, w.heap.size + 1 = q := ⟨_, rfl⟩
  have HPB := Lib.hid hpb
  rw [hqb, hpb]
  rintro w1 ⟨BP, BQ, B1⟩
  rw [← HPB.out] at B1
  clear hpb hqb
  have q0 := BQ.out.cell 0
  have q1 := BQ.out.cell 1
  have q2 := BQ.out.cell 2
  have q3 := BQ.out.cell 3
  have q4 := BQ.out.cell 4
  have KE1 := Lib.hid (KE.out w1)
  clear KE
  go_wp2_with fail
  refine KE1.out.mono ?_
  rintro e w2 ⟨xa, xc, k, rfl, ho, hb2, _⟩
  have BP2 := Lib.hid (BP.out.later hb2)
  have B2 := Lib.hid (B1.out.trans (hb2.mono B1.out.size))
  have M2 := Lib.hid (HM.out.later B2.out)
  have XO : Hid (Own w2 w.heap.size 5 1 xa m xc (u8L b)) := Lib.hid (Own.mono (show Own w2 w1.heap.size 5 1 xa m xc (u8L b) from ho) B1.out.size)
  clear ho hb2 KE1 BP BQ B1 q0 q1 q2 q3 q4
  have p0 := BP2.out.cell 0
  have p1' := BP2.out.cell 1
  have p2' := BP2.out.cell 2
  have l0 : w2.cell? ⟨lb, 0, none⟩ = some (.slice a n c) := M2.out.box.cell 0
  have O2 := Lib.hid M2.out.own
  have hB2 : B ≤ w2.heap.size := Nat.le_trans hB B2.out.size
  have HZ : Hid (flE enE es ++ #[.int .i64 p1, .int .i64 p2, .int .i64 p3, .slice xa m xc].toList = flE enE (es ++ [⟨⟨p1, p2, p3⟩, xa, m, xc, b⟩])) := Lib.hid (flE_snoc es ⟨⟨p1, p2, p3⟩, xa, m, xc, b⟩)
  have NEW : Hid (∀ (w5 : World) (g c' : Nat), Own w5 B 152 4 (some ⟨g, 0, none⟩) (n + 1) c' (flE enE (es ++ [⟨⟨p1, p2, p3⟩, xa, m, xc, b⟩])) → w2.grownBy w5 (a.map (·.block)) → (a.map (·.block) = some g ∨ g = w2.heap.size + 1) →
      w5.cell? ⟨lb, 0, none⟩ = some (.slice a n c) ∧ w5.frozen? ⟨lb, 0, none⟩ = false ∧ lb < w5.heap.size ∧ Hid (RecM (w5.setCell ⟨lb, 0, none⟩ (.slice (some ⟨g, 0, none⟩) (n + 1) c')) B lb (n + 1) c' (some ⟨g, 0, none⟩) (es ++ [⟨⟨p1, p2, p3⟩, xa, m, xc, b⟩]) ∧ Only (fun k => k = lb ∨ a = some ⟨k, 0, none⟩) w (w5.setCell ⟨lb, 0, none⟩ (.slice (some ⟨g, 0, none⟩) (n + 1) c')) ∧ ∀ k, (some ⟨g, 0, none⟩ : Option Addr) = some ⟨k, 0, none⟩ → a = some ⟨k, 0, none⟩ ∨ w.heap.size ≤ k)) := Lib.hid (fun w5 g c' k1 k2 k3 => by
    have hga : ∀ {k : Nat}, a.map (·.block) = some k → a = some ⟨k, 0, none⟩ := fun hk => own_block5 M2.out.own hk
    have hlb : some lb ≠ a.map (·.block) := fun e => by
      have h9 := M2.out.own
      rw [hga e.symm] at h9
      exact own_not_box h9 M2.out.box (by decide) rfl
    have hbx : Box w5 lb #[.slice a n c] 149 := (k2.block lb M2.out.box.lt hlb).trans M2.out.box
    have hg := M2.out.grown (x := ⟨⟨p1, p2, p3⟩, xa, m, xc, b⟩) ⟨HBM.out, XO.out.mono hB⟩ (fun e he g' hg' hx => by
      have h8 := (own_lt ((HM.out.byt e he).2) hg').1
      have h7 := (own_lt XO.out hx).2
      omega) k1 k2 rfl (by rcases k3 with k3 | k3; exact Or.inl k3; exact Or.inr (by omega))
    refine ⟨hbx.cell 0, hbx.free 0, hbx.lt, Lib.hid ⟨hg.1, (Only.of_below _ B2.out).trans hg.2 (fun x hx => Or.inl hx), fun k hk => ?_⟩⟩
    injection hk with hk
    injection hk with hk
    subst hk
    rcases k3 with k3 | k3
    · exact Or.inl (hga k3)
    · exact Or.inr (by have := B2.out.size; omega))
  clear M2 BP2 HM XO HBM
  go_wp2_with (at_builtin; refine wpList_app1 rowRc rfl _ _ rfl B a n c _ rfl O2.out #[.int .i64 p1, .int .i64 p2, .int .i64 p3, .slice xa m xc] rfl rfl (by simp [Value.oneCell']) (by omega) (by decide) hB2 (n + 1) rfl _ HZ.out ?_; rintro g5 c5 w5 k1 k2 k3 k4; obtain ⟨z1, z2, z3, NX⟩ := NEW.out _ _ _ k1 k2 k4; clear k1 k2 k3 k4 O2 NEW)
  go_end0
  exact ⟨rfl, _, _, ⟨⟨p1, p2, p3⟩, xa, m, xc, b⟩, rfl, rfl, NX.out⟩
end Go.Proofs.YtimkgaokcldgkaaGreatDoor
/- Package spill: records. Written by gen_records.py. -/
namespace Go.Proofs.YtimkgaokcldgkaaGreatDoor
open Go Go.RowKit Go.Maps Go.Sort
set_option linter.unusedVariables false
set_option linter.unusedSimpArgs false
set_option maxRecDepth 100000

theorem now_cells {w : World} (h : NowM w) : ∀ (j : Nat) (v : Value), (plC nowh)[j]? = some v → w.cell? ⟨gNow, 0 + j, none⟩ = some v := fun j v hj => by
  have hlt : j < 3 := (Array.getElem?_eq_some_iff.1 hj).1
  rw [Nat.zero_add, h j hlt]
  exact hj
def fE (e : En) : Pl × List Int := (e.p, e.b)
theorem fE_stab (es : List En) : (stabS ltE es.toArray).toList.map fE = (stabS ltP (es.map fE).toArray).toList := by
  have h := mp_stabS fE rfl ltP es.toArray
  rw [← List.map_toArray, h]
  simp
  rfl
theorem ins_none (a : Option Addr) (c : Nat) (fv : Value) (w : World) : Calls Tryz.prog 131 #[.slice a 0 c, .int .i64 0, .int .i64 0, fv] w fun e w' => e = .returned (.tuple #[]) ∧ w' = w := by
  go_enter Tryz.func131, Tryz.ntmps131
  go_wp2
  refine wp_loop_rounds 1 ?_
  rw [rounds_succ]
  go_wp2
  go_end0
  exact ⟨rfl, rfl⟩
theorem stable_none (a : Option Addr) (c : Nat) (w : World) : Calls Tryz.prog 119 #[.slice a 0 c, .int .i64 0, .func (.func 108) #[] #[]] w fun e w' => e = .returned (.tuple #[]) ∧ w' = w := by
  have IN := Lib.hid (fun W => ins_none a c (.func (.func 108) #[] #[]) W)
  go_enter Tryz.func119, Tryz.ntmps119
  go_wp2
  refine wp_loop_rounds 1 ?_
  rw [rounds_succ]
  go_wp2_with fail
  refine (IN.out _).mono ?_
  rintro e w2 ⟨rfl, rfl⟩
  go_wp2_with fail
  refine wp_loop_rounds 1 ?_
  rw [rounds_succ]
  go_wp2
  go_end0
  exact ⟨rfl, rfl⟩
theorem sortStable_none (a : Option Addr) (c : Nat) (w : World) : Calls Tryz.prog 107 #[.slice a 0 c, .func (.func 108) #[] #[]] w fun e w' => e = .returned (.tuple #[]) ∧ w' = w := by
  have SB := Lib.hid (stable_none a c w)
  go_enter Tryz.func107, Tryz.ntmps107
  go_wp2_with fail
  refine SB.out.mono ?_
  rintro e w2 ⟨rfl, rfl⟩
  go_wp2_with fail
  go_end0
  exact ⟨rfl, rfl⟩
/-- Records under way in a log. -/
structure RcS (w : World) (RD RL : Nat → Prop) (d L : Nat) (g : Lg) (lb n c : Nat) (a : Option Addr) (es : List En) (X : List (Pl × List Int)) (wr : World) : Prop where
  lg : LgM wr RD RL d L g
  rm : RecM wr w.heap.size lb n c a es
  eq : es.map fE = X
  bel : Below w.heap.size w wr
theorem RcS.later {w : World} {RD RL : Nat → Prop} {d L : Nat} {g : Lg} {lb n c : Nat} {a : Option Addr} {es : List En} {X : List (Pl × List Int)} {wr w' : World} (h : RcS w RD RL d L g lb n c a es X wr) (hb : Below wr.heap.size wr w') : RcS w RD RL d L g lb n c a es X w' :=
  ⟨h.lg.later hb, h.rm.later hb, h.eq, h.bel.trans (hb.mono h.bel.size)⟩
/-- What keep does to the world. -/
def KeptW (w : World) (RD RL : Nat → Prop) (d L : Nat) (g : Lg) (lb n : Nat) (a : Option Addr) (X : List (Pl × List Int)) (p : Pl) (b : List Int) (wr w' : World) : Prop :=
  ∃ (a' : Option Addr) (c' : Nat) (es' : List En), RcS w RD RL d L g lb (n + 1) c' a' es' (X ++ [(p, b)]) w' ∧ Only (fun k => k = lb ∨ a = some ⟨k, 0, none⟩) wr w'
theorem RcS.kept {w : World} {RD RL : Nat → Prop} {d L : Nat} {g : Lg} {lb n c : Nat} {a : Option Addr} {es : List En} {X : List (Pl × List Int)} {wr w' : World} (G0 : LgM w RD RL d L g) (h : RcS w RD RL d L g lb n c a es X wr) {p : Pl} {b : List Int}
    (h2 : ∃ (a' : Option Addr) (c' : Nat) (x : En), x.p = p ∧ x.b = b ∧ RecM w' w.heap.size lb (n + 1) c' a' (es ++ [x]) ∧ Only (fun k => k = lb ∨ a = some ⟨k, 0, none⟩) wr w' ∧ ∀ k, a' = some ⟨k, 0, none⟩ → a = some ⟨k, 0, none⟩ ∨ wr.heap.size ≤ k) : KeptW w RD RL d L g lb n a X p b wr w' := by
  obtain ⟨a', c', x, hp, hb, hr, ho, _⟩ := h2
  have hge : ∀ k, (k = lb ∨ a = some ⟨k, 0, none⟩) → w.heap.size ≤ k := fun k hk => by
    rcases hk with hk | hk
    · rw [hk]; exact h.rm.lB
    · exact (own_lt h.rm.own hk).2
  refine ⟨a', c', _, ⟨h.lg.keep ho.size fun k hk hm => ho.block k hk fun e => ?_, hr, ?_, h.bel.trans (ho.below h.bel.size hge)⟩, ho⟩
  · have := hge k e
    rcases hm with hm | hm | hm
    · have := G0.dk.lt k hm; omega
    · have := G0.lx.lt k hm; omega
    · have := G0.now.lt; omega
  · rw [List.map_append, h.eq]
    show X ++ [fE x] = _
    unfold fE
    rw [hp, hb]
theorem RecM.own_off {w w' : World} {B lb n c : Nat} {a : Option Addr} {es : List En} (h : RecM w B lb n c a es) (ho : Only (fun k => k = lb ∨ a = some ⟨k, 0, none⟩) w w') {B2 size m c2 : Nat} {E : TypeId} {a2 : Option Addr} {xs : List Value} (hx : Own w B2 E size a2 m c2 xs) (h1 : 149 ≠ E) (h2 : E ≠ 152) : Own w' B2 E size a2 m c2 xs :=
  hx.only ho fun k hk => by
    rintro (e | e)
    · subst e
      rw [hk] at hx
      exact own_not_box hx h.box h1 rfl
    · exact own_apart hx h.own hk e h2
theorem srtS_len (l : List ByteArray) : (srtS l).length = l.length := by unfold srtS; rw [List.length_map, List.length_mergeSort, List.length_map]
theorem srtS_mem {l : List ByteArray} {x : ByteArray} : x ∈ srtS l ↔ x ∈ l := by
  unfold srtS
  rw [List.mem_map]
  constructor
  · rintro ⟨b, hb, rfl⟩
    rw [List.mem_mergeSort, List.mem_map] at hb
    obtain ⟨s, hs, rfl⟩ := hb
    exact hs
  · intro h
    exact ⟨x.data.toList, by rw [List.mem_mergeSort, List.mem_map]; exact ⟨x, h, rfl⟩, rfl⟩
theorem WtM.kk {w : World} {wm : Option Nat} {S : List (ByteArray × Wt)} (h : WtM w wm S) : ∀ p ∈ S, okS p.1 := by
  rcases h with ⟨_, rfl⟩ | ⟨m, _, h⟩
  · intro p hp; cases hp
  · exact h.kk
theorem LgM.hosts_ok {w : World} {RD RL : Nat → Prop} {d L : Nat} {g : Lg} (h : LgM w RD RL d L g) : ∀ s ∈ srtS (g.x.waits.map Prod.fst), okS s := fun s hs => by
  obtain ⟨pm, wm, hi, hmi⟩ := h.lx.ix
  obtain ⟨p, hp, rfl⟩ := List.mem_map.1 (srtS_mem.1 hs)
  exact hi.waits.kk p hp
/-- The blocks of an index are what they were, as long as the log is as it was. -/
theorem LgM.same {w w' : World} {RD RL : Nat → Prop} {d L : Nat} {g : Lg} {pm : Nat} {wm : Option Nat} (G0 : LgM w RD RL d L g) (hi : IxM w 0 L 2 (logC d g.n pm wm g.x.top) 66 pm wm g.x) (hb : Below w.heap.size w w') : IxM w' 0 L 2 (logC d g.n pm wm g.x.top) 66 pm wm g.x := hi.later hb
set_option maxHeartbeats 8000000 in
theorem records_at {w : World} {RD RL : Nat → Prop} {d L : Nat} {g : Lg} (h : LgM w RD RL d L g) (hf : Few g.x) :
    Calls Tryz.prog 83 #[.pointer (some ⟨L, 0, none⟩)] w fun e w' => ∃ (n c : Nat) (a : Option Addr) (es : List En), e = .returned (.slice a n c) ∧ n ≤ 2000001 ∧ Own w' w.heap.size 152 4 a n c (flE enE es) ∧ es.length = n ∧ (∀ e ∈ es, e.b.length = e.n ∧ Own w' w.heap.size 5 1 e.a e.n e.c (u8L e.b)) ∧ (es.Pairwise fun x y => ∀ g, x.a = some ⟨g, 0, none⟩ → y.a ≠ some ⟨g, 0, none⟩) ∧ es.map fE = sortedL g ∧ Below w.heap.size w w' := by
  obtain ⟨pm, wm, hi, hmi⟩ := h.lx.ix
  obtain ⟨K, hK⟩ : ∃ K, g.x.puts.length = K := ⟨_, rfl⟩
  obtain ⟨ks, hks⟩ : ∃ ks, srtI (g.x.puts.map Prod.fst) = ks := ⟨_, rfl⟩
  obtain ⟨K2, hK2⟩ : ∃ K, g.x.waits.length = K := ⟨_, rfl⟩
  obtain ⟨hs, hhs⟩ : ∃ hs, srtS (g.x.waits.map Prod.fst) = hs := ⟨_, rfl⟩
  have hKn : K ≤ 900000 := hK ▸ hf.1
  have hK2n : K2 ≤ 900000 := hK2 ▸ hf.2
  have HKO := Lib.hid (hks ▸ h.keys_ok)
  have HHO := Lib.hid (hhs ▸ h.hosts_ok)
  have HKL : Hid (ks.length = K) := Lib.hid (by rw [← hks, srtI_len, List.length_map, hK])
  have HHL : Hid (hs.length = K2) := Lib.hid (by rw [← hhs, srtS_len, List.length_map, hK2])
  have HFIN : Hid (sortedL g = (stabS ltP (ks.filterMap (recP g) ++ hs.map (recW g.x) ++ recT g.x).toArray).toList) := Lib.hid (by rw [← hks, ← hhs]; rfl)
  have G := Lib.hid h
  have HI := Lib.hid hi
  have KP := Lib.hid (fun (W : World) (hW : Below w.heap.size w W) => keysP_at (hi.later hW).puts K hK (by omega))
  have KW := Lib.hid (fun (W : World) (hW : Below w.heap.size w W) => keysW_at (hi.later hW).waits K2 hK2 (by omega))
  rw [hks] at KP
  rw [hhs] at KW
  have ENT : ∀ args w, (callFunc 106 args).run Tryz.prog w = .ok (.enter 106 args) w := enters_of Tryz.func106 (by kernel_rfl) rfl
  clear hks hK hhs hK2 hi h hf
  go_enter Tryz.func83, Tryz.ntmps83
  go_upto_region 3 with fail
  refine code_forget (fun W => Hid (RcS w RD RL d L g w.heap.size 0 0 none [] [] W)) (Lib.hid ⟨G.out.later ((Below.refl _ _).alloc (Nat.le_refl _) _), ⟨Box.new w _ _, Own.nil _ _ _ _, rfl, fun e he => (by cases he), List.Pairwise.nil, Nat.le_refl _⟩, rfl, (Below.refl _ _).alloc (Nat.le_refl _) _⟩) ?_
  obtain ⟨lb, hlb⟩ : ∃ p, w.heap.size = p := ⟨_, rfl⟩
  intro w1 RS1
  have HLB := Lib.hid hlb
  rw [show RcS w RD RL d L g w.heap.size 0 0 none [] [] w1 = RcS w RD RL d L g lb 0 0 none [] [] w1 by rw [hlb]] at RS1
  rw [hlb]
  clear hlb
  have l2 : w1.cell? ⟨L, 2, none⟩ = some (.map (some pm)) := (HI.out.later RS1.out.bel).box.cell 2
  have KP1 := Lib.hid (KP.out w1 RS1.out.bel)
  clear KP
  go_wp2_with fail
  refine KP1.out.mono ?_
  rintro e w2 ⟨ka, kc, rfl, ho, hb⟩
  have ST : Hid (RcS w RD RL d L g lb 0 0 none [] [] w2 ∧ Own w2 w1.heap.size 3 1 ka K kc (inL ks)) := Lib.hid ⟨RS1.out.later hb, ho⟩
  clear KP1 ho hb l2 RS1
  go_wp2_with fail
  go_loopw [22] (fun vi wr => ∃ (k n c : Nat) (a : Option Addr) (es : List En), vi = .int .i64 (k : Int) ∧ k ≤ K ∧ n ≤ k ∧ Hid (RcS w RD RL d L g lb n c a es ((ks.take k).filterMap (recP g)) wr ∧ Own wr w1.heap.size 3 1 ka K kc (inL ks))) (fun vi _ => K - (intV vi).toNat)
  case atStart => exact ⟨0, 0, 0, none, [], rfl, Nat.zero_le _, Nat.le_refl _, ST⟩
  case round =>
    clear ST
    obtain ⟨k, n, c, a, es, rfl, hk, hnk, HS⟩ := hrel
    by_cases hkK : k < K
    · have d1 : decide ((k : Int) < (K : Int)) = true := decide_eq_true (by omega)
      have d1n : decide (k < K) = true := decide_eq_true hkK
      obtain ⟨id, hid⟩ : ∃ id, ks[k]? = some id := ⟨_, List.getElem?_eq_getElem (by rw [HKL.out]; exact hkK)⟩
      have hok := HKO.out id (List.mem_of_getElem? hid)
      obtain ⟨g9, hg9, _, _⟩ := HS.out.2.some_ (by omega)
      subst hg9
      have ck := HS.out.2.cell (j := k) (u := .int .i64 id) (by unfold inL; rw [List.getElem?_map, hid]; rfl)
      have ik0 : (0 : Int) ≤ (k : Int) := by omega
      obtain ⟨o, ho⟩ : ∃ o, loadL g id = o := ⟨_, rfl⟩
      have LD := Lib.hid (load_at HS.out.1.lg id hok)
      rw [ho] at LD
      have TK : Hid ((ks.take (k + 1)).filterMap (recP g) = (ks.take k).filterMap (recP g) ++ (o.map fun r => (atI g.x id, encO ⟨1, r.id, r.host, r.path, r.prio, r.till⟩)).toList) := Lib.hid (by
        rw [List.take_add_one, hid, List.filterMap_append]
        congr 1
        show List.filterMap (recP g) [id] = _
        have e9 : recP g id = o.map fun r => (atI g.x id, encO ⟨1, r.id, r.host, r.path, r.prio, r.till⟩) := by unfold recP; rw [ho]
        rw [List.filterMap_cons, e9]
        cases o <;> rfl)
      have hPI : Hid (∀ W, PtM W pm g.x.puts → (Instr.lookup 58 (.map (some pm)) (.int .i64 id) false).run Tryz.prog W = .ok (plV (atI g.x id)) W) := Lib.hid (fun W hW => by
        rw [hW.look tyP id hok, getD_map]
        rfl)
      clear hid hok ho
      go_wp2_with fail
      refine LD.out.mono ?_
      rintro e w3 ⟨rfl, hb⟩
      have HS3 : Hid (RcS w RD RL d L g lb n c a es ((ks.take k).filterMap (recP g)) w3 ∧ Own w3 w1.heap.size 3 1 (some ⟨g9, 0, none⟩) K kc (inL ks)) := Lib.hid ⟨HS.out.1.later hb, HS.out.2.later hb⟩
      clear LD hb ck HS
      cases o with
      | none =>
        have hal := (Below.refl w3.heap.size w3).alloc (Nat.le_refl _) (.cells (reqL rc0).toArray 35)
        have NX : Hid (RcS w RD RL d L g lb n c a es ((ks.take (k + 1)).filterMap (recP g)) (w3.alloc (.cells (reqL rc0).toArray 35)) ∧ Own (w3.alloc (.cells (reqL rc0).toArray 35)) w1.heap.size 3 1 (some ⟨g9, 0, none⟩) K kc (inL ks)) := Lib.hid (by
          have t9 : (ks.take (k + 1)).filterMap (recP g) = (ks.take k).filterMap (recP g) := by rw [TK.out]; simp
          rw [t9]
          exact ⟨HS3.out.1.later hal, HS3.out.2.later hal⟩)
        unfold reqL rc0 at NX
        dsimp only at NX
        clear TK HS3 hal hPI
        simp only [Option.getD_none, Option.isSome_none, reqL, rc0]
        go_wp2_with fail
        go_roundw
        case rel => exact ⟨k + 1, n, c, a, es, by go_num, by omega, by omega, NX⟩
        case measure => simp [intV]; omega
      | some r =>
        obtain ⟨r0, r1, r2, r3, r4, r5⟩ := r
        have hal := (Below.refl w3.heap.size w3).alloc (Nat.le_refl _) (.cells #[.int .i64 r1, .string r2, .string r3, .int .i64 r4, .int .i64 r5] 35)
        have B4 : Hid (Box (w3.alloc (.cells #[.int .i64 r1, .string r2, .string r3, .int .i64 r4, .int .i64 r5] 35)) w3.heap.size #[.int .i64 r1, .string r2, .string r3, .int .i64 r4, .int .i64 r5] 35) := Lib.hid (Box.new w3 _ _)
        have HS4 : Hid (RcS w RD RL d L g lb n c a es ((ks.take k).filterMap (recP g)) (w3.alloc (.cells #[.int .i64 r1, .string r2, .string r3, .int .i64 r4, .int .i64 r5] 35)) ∧ Own (w3.alloc (.cells #[.int .i64 r1, .string r2, .string r3, .int .i64 r4, .int .i64 r5] 35)) w1.heap.size 3 1 (some ⟨g9, 0, none⟩) K kc (inL ks)) := Lib.hid ⟨HS3.out.1.later hal, HS3.out.2.later hal⟩
        simp only [Option.getD_some, Option.isSome_some, reqL]
        go_upto_region 8 with fail
        refine code_forget (fun W => Hid (RcS w RD RL d L g lb n c a es ((ks.take k).filterMap (recP g)) W ∧ Own W w1.heap.size 3 1 (some ⟨g9, 0, none⟩) K kc (inL ks)) ∧ Hid (Box W w3.heap.size #[.int .i64 r1, .string r2, .string r3, .int .i64 r4, .int .i64 r5] 35)) ⟨HS4, B4⟩ ?_
        obtain ⟨qb, hqb⟩ : ∃ p, w3.heap.size = p := ⟨_, rfl⟩
        rw [hqb]
        clear HS4 B4 HS3 hqb hal
        rintro w4 ⟨HS4, BQ3⟩
        obtain ⟨P, hP⟩ : ∃ P, atI g.x id = P := ⟨_, rfl⟩
        rw [hP] at hPI TK
        have LKP := hPI
        clear hPI hP
        have BL3 := Lib.hid (HI.out.later HS4.out.1.bel).box
        have PT3 : PtM w4.drew pm g.x.puts := (HI.out.later HS4.out.1.bel).puts.later (Below.refl _ _).drew
        have KP := Lib.hid (keep_at (HS4.out.1.rm.later (Below.refl _ _).drew) (show w.heap.size ≤ w4.drew.heap.size from HS4.out.1.bel.size) (by omega) P ⟨1, r1, r2, r3, r4, r5⟩)
        have NEXT : Hid (∀ w5, (∃ (a' : Option Addr) (c' : Nat) (x : En), x.p = P ∧ x.b = encO ⟨1, r1, r2, r3, r4, r5⟩ ∧ RecM w5 w.heap.size lb (n + 1) c' a' (es ++ [x]) ∧ Only (fun k => k = lb ∨ a = some ⟨k, 0, none⟩) w4.drew w5 ∧ ∀ k, a' = some ⟨k, 0, none⟩ → a = some ⟨k, 0, none⟩ ∨ w4.drew.heap.size ≤ k) →
            ∃ (a' : Option Addr) (c' : Nat) (es' : List En), RcS w RD RL d L g lb (n + 1) c' a' es' ((ks.take (k + 1)).filterMap (recP g)) w5 ∧ Own w5 w1.heap.size 3 1 (some ⟨g9, 0, none⟩) K kc (inL ks)) := Lib.hid (fun w5 h5 => by
          obtain ⟨a', c', es', q1, q2⟩ := (HS4.out.1.later (Below.refl _ _).drew).kept G.out h5
          rw [TK.out]
          exact ⟨a', c', es', q1, (HS4.out.1.later (Below.refl _ _).drew).rm.own_off q2 HS4.out.2.drew (by decide) (by decide)⟩)
        obtain ⟨p1, p2, p3⟩ := P
        unfold plV plC reqL at KP
        dsimp only at KP
        clear HS4 TK
        refine wp_region_last 9 (fun w' => PtM w' pm g.x.puts ∧ Box w' L (logC d g.n pm wm g.x.top) 66 ∧ Box w' qb #[.int .i64 r1, .string r2, .string r3, .int .i64 r4, .int .i64 r5] 35) (by kernel_rfl) (⟨PT3, BL3.out.drew, BQ3.out.drew⟩) (fun hHeld hClosed => ?_)
        refine wtk (i := 0) (v := ?_) rfl hClosed (Or.inl ⟨by rfl, ?_⟩) hHeld (fun hClosed => ?_)
        rotate_left
        · intro wv hSw; go_simp; all_goals (with_reducible rfl)
        (try simp only [List.getElem_toArray, List.getElem_cons_zero, put_at, List.set])
        refine wtk (i := 1) (v := ?_) rfl hClosed (Or.inl ⟨by rfl, ?_⟩) hHeld (fun hClosed => ?_)
        rotate_left
        · intro wv hSw; go_simp; all_goals (with_reducible rfl)
        (try simp only [List.getElem_toArray, List.getElem_cons_succ, List.getElem_cons_zero, put_at, List.set])
        refine wtk (i := 2) (v := ?_) rfl hClosed (Or.inl ⟨by rfl, ?_⟩) hHeld (fun hClosed => ?_)
        rotate_left
        · intro wv hSw; go_simp; all_goals (with_reducible rfl)
        (try simp only [List.getElem_toArray, List.getElem_cons_succ, List.getElem_cons_zero, put_at, List.set])
        refine wtk (i := 3) (v := ?_) rfl hClosed (Or.inl ⟨by rfl, ?_⟩) hHeld (fun hClosed => ?_)
        rotate_left
        · intro wv hSw; go_simp; all_goals (with_reducible rfl)
        (try simp only [List.getElem_toArray, List.getElem_cons_succ, List.getElem_cons_zero, put_at, List.set])
        refine wtk (i := 4) (v := ?_) rfl hClosed (Or.inl ⟨by rfl, ?_⟩) hHeld (fun hClosed => ?_)
        rotate_left
        · intro wv hSw; go_simp; all_goals (with_reducible rfl)
        (try simp only [List.getElem_toArray, List.getElem_cons_succ, List.getElem_cons_zero, put_at, List.set])
        refine wtk (i := 5) (v := ?_) rfl hClosed (Or.inl ⟨by rfl, ?_⟩) hHeld (fun hClosed => ?_)
        rotate_left
        · intro wv hSw; have l2 : wv.cell? ⟨L, 2, none⟩ = some (.map (some pm)) := hSw.2.1.cell 2; have lk9 := LKP.out _ hSw.1; unfold plV plC at lk9; dsimp only at lk9; go_simp; all_goals (with_reducible rfl)
        (try simp only [List.getElem_toArray, List.getElem_cons_succ, List.getElem_cons_zero, put_at, List.set])
        refine wtk (i := 6) (v := ?_) rfl hClosed (Or.inl ⟨by rfl, ?_⟩) hHeld (fun hClosed => ?_)
        rotate_left
        · intro wv hSw; go_simp; all_goals (with_reducible rfl)
        (try simp only [List.getElem_toArray, List.getElem_cons_succ, List.getElem_cons_zero, put_at, List.set])
        refine wtk (i := 7) (v := ?_) rfl hClosed (Or.inl ⟨by rfl, ?_⟩) hHeld (fun hClosed => ?_)
        rotate_left
        · intro wv hSw; have l2 : wv.cell? ⟨L, 2, none⟩ = some (.map (some pm)) := hSw.2.1.cell 2; have lk9 := LKP.out _ hSw.1; unfold plV plC at lk9; dsimp only at lk9; go_simp; all_goals (with_reducible rfl)
        (try simp only [List.getElem_toArray, List.getElem_cons_succ, List.getElem_cons_zero, put_at, List.set])
        refine wtk (i := 8) (v := (.agg #[.int .i64 r1, .string r2, .string r3, .int .i64 r4, .int .i64 r5])) rfl hClosed (Or.inl ⟨by rfl, ?_⟩) hHeld (fun hClosed => ?_)
        · intro wv hSw; exact exec_load_box (by rfl) (by rfl) hSw.2.2 Tryz.underlying35 rfl (by kernel_rfl)
        (try simp only [List.getElem_toArray, List.getElem_cons_succ, List.getElem_cons_zero, put_at, List.set])
        refine wpAnyL_last rfl (by kernel_rfl) (by kernel_rfl) (fun KK hK => ?_)
        have KP9 := Lib.hid (KP.out)
        clear hHeld
        go_simp
        refine KP9.out.mono ?_
        rintro e w4 ⟨rfl, hkp⟩
        obtain ⟨a', c', es', hn4, hk4⟩ := NEXT.out w4 hkp
        have NX := Lib.hid (And.intro hn4 hk4)
        clear hn4 hk4 hkp NEXT KP9 KP
        go_wp2_with fail
        refine hK.out _ _ ?_
        (try simp only [put_at, List.set])
        go_wp2_with fail
        go_roundw
        case rel => exact ⟨k + 1, n + 1, c', a', es', by go_num, by omega, by omega, NX⟩
        case measure => simp [intV]; omega
    · have d1 : decide ((k : Int) < (K : Int)) = false := decide_eq_false (by omega)
      have hkk : k = K := by omega
      subst hkk
      have RS3 : Hid (RcS w RD RL d L g lb n c a es (ks.filterMap (recP g)) wr) := Lib.hid (by
        have h9 := HS.out.1
        rw [List.take_of_length_le (by rw [HKL.out]; exact Nat.le_refl _)] at h9
        exact h9)
      clear HS
      have l3 : wr.cell? ⟨L, 3, none⟩ = some (.map wm) := (HI.out.later RS3.out.bel).box.cell 3
      have KW1 := Lib.hid (KW.out wr RS3.out.bel)
      clear KW
      go_wp2_with fail
      refine KW1.out.mono ?_
      rintro e w3 ⟨ha, hc, rfl, ho, hb⟩
      have ST : Hid (RcS w RD RL d L g lb n c a es (ks.filterMap (recP g) ++ (hs.take 0).map (recW g.x)) w3 ∧ Own w3 wr.heap.size 9 1 ha K2 hc (hs.map Value.string)) := Lib.hid ⟨by rw [List.take_zero, List.map_nil, List.append_nil]; exact RS3.out.later hb, ho⟩
      obtain ⟨B8, hB8⟩ : ∃ B, wr.heap.size = B := ⟨_, rfl⟩
      rw [hB8] at ST
      clear KW1 ho hb l3 RS3 hB8
      go_wp2_with fail
      go_loopw [51] (fun vi wr => ∃ (k n c : Nat) (a : Option Addr) (es : List En), vi = .int .i64 (k : Int) ∧ k ≤ K2 ∧ n ≤ 900000 + k ∧ Hid (RcS w RD RL d L g lb n c a es (ks.filterMap (recP g) ++ (hs.take k).map (recW g.x)) wr ∧ Own wr B8 9 1 ha K2 hc (hs.map Value.string))) (fun vi _ => K2 - (intV vi).toNat)
      case atStart => exact ⟨0, n, c, a, es, rfl, Nat.zero_le _, by omega, ST⟩
      case round =>
        clear ST
        obtain ⟨k, n, c, a, es, rfl, hk, hnk, HS⟩ := hrel
        by_cases hkK : k < K2
        · have d1 : decide ((k : Int) < (K2 : Int)) = true := decide_eq_true (by omega)
          have d1n : decide (k < K2) = true := decide_eq_true hkK
          obtain ⟨s, hid⟩ : ∃ s, hs[k]? = some s := ⟨_, List.getElem?_eq_getElem (by rw [HHL.out]; exact hkK)⟩
          have hok := HHO.out s (List.mem_of_getElem? hid)
          obtain ⟨g9, hg9, _, _⟩ := HS.out.2.some_ (by omega)
          subst hg9
          have ck := HS.out.2.cell (j := k) (u := .string s) (by rw [List.getElem?_map, hid]; rfl)
          have ik0 : (0 : Int) ≤ (k : Int) := by omega
          obtain ⟨v, hv⟩ : ∃ v, waitI g.x s = v := ⟨_, rfl⟩
          have IX := HI.out.later HS.out.1.bel
          have lkw : (Instr.lookup 59 (.map wm) (.string s) false).run Tryz.prog wr = .ok (wtV v) wr := by rw [IX.waits.look s hok, ← hv]; rfl
          have l3 : wr.cell? ⟨L, 3, none⟩ = some (.map wm) := IX.box.cell 3
          have TK : Hid (ks.filterMap (recP g) ++ (hs.take (k + 1)).map (recW g.x) = (ks.filterMap (recP g) ++ (hs.take k).map (recW g.x)) ++ [(v.at_, encO ⟨3, 0, s, ⟨#[]⟩, 0, v.till⟩)]) := Lib.hid (by
            rw [List.take_add_one, hid, List.map_append, List.append_assoc]
            show _ ++ (_ ++ [recW g.x s]) = _
            unfold recW
            rw [hv])
          obtain ⟨v0, v1, v2, v3⟩ := v
          unfold wtV at lkw
          dsimp only at lkw TK
          clear hid hok hv IX
          go_upto_region 14 with fail
          refine code_forget (fun W => Hid (RcS w RD RL d L g lb n c a es (ks.filterMap (recP g) ++ (hs.take k).map (recW g.x)) W ∧ Own W B8 9 1 (some ⟨g9, 0, none⟩) K2 hc (hs.map Value.string)) ∧ Hid (Box W wr.heap.size #[.int .i64 v0, .int .i64 v1, .int .i64 v2, .int .i64 v3] 142)) ⟨Lib.hid ⟨HS.out.1.later ((Below.refl _ _).alloc (Nat.le_refl _) _), HS.out.2.alloc _⟩, Lib.hid (Box.new _ _ _)⟩ ?_
          obtain ⟨qb, hqb⟩ : ∃ p, wr.heap.size = p := ⟨_, rfl⟩
          rw [hqb]
          clear HS hqb ck lkw l3
          rintro w4 ⟨HS4, BQ⟩
          have q0 := BQ.out.cell 0
          have q1 := BQ.out.cell 1
          have q2 := BQ.out.cell 2
          have q3 := BQ.out.cell 3
          have KP := Lib.hid (keep_at HS4.out.1.rm (show w.heap.size ≤ w4.heap.size from HS4.out.1.bel.size) (by omega) ⟨v1, v2, v3⟩ ⟨3, 0, s, ⟨#[]⟩, 0, v0⟩)
          have NEXT : Hid (∀ w5, (∃ (a' : Option Addr) (c' : Nat) (x : En), x.p = ⟨v1, v2, v3⟩ ∧ x.b = encO ⟨3, 0, s, ⟨#[]⟩, 0, v0⟩ ∧ RecM w5 w.heap.size lb (n + 1) c' a' (es ++ [x]) ∧ Only (fun k => k = lb ∨ a = some ⟨k, 0, none⟩) w4 w5 ∧ ∀ k, a' = some ⟨k, 0, none⟩ → a = some ⟨k, 0, none⟩ ∨ w4.heap.size ≤ k) →
              ∃ (a' : Option Addr) (c' : Nat) (es' : List En), RcS w RD RL d L g lb (n + 1) c' a' es' (ks.filterMap (recP g) ++ (hs.take (k + 1)).map (recW g.x)) w5 ∧ Own w5 B8 9 1 (some ⟨g9, 0, none⟩) K2 hc (hs.map Value.string)) := Lib.hid (fun w5 h5 => by
            obtain ⟨a', c', es', q1, q2⟩ := HS4.out.1.kept G.out h5
            rw [TK.out]
            exact ⟨a', c', es', q1, HS4.out.1.rm.own_off q2 HS4.out.2 (by decide) (by decide)⟩)
          unfold plV plC reqL at KP
          dsimp only at KP
          clear HS4 TK
          go_wp2_with fail
          refine KP.out.mono ?_
          rintro e w5 ⟨rfl, hkp⟩
          obtain ⟨a', c', es', hn4, hk4⟩ := NEXT.out w5 hkp
          have NX := Lib.hid (And.intro hn4 hk4)
          clear hn4 hk4 hkp NEXT KP BQ q0 q1 q2 q3
          go_wp2_with fail
          go_roundw
          case rel => exact ⟨k + 1, n + 1, c', a', es', by go_num, by omega, by omega, NX⟩
          case measure => simp [intV]; omega
        · have d1 : decide ((k : Int) < (K2 : Int)) = false := decide_eq_false (by omega)
          have hkk : k = K2 := by omega
          subst hkk
          obtain ⟨X, hX⟩ : ∃ X, ks.filterMap (recP g) ++ hs.map (recW g.x) = X := ⟨_, rfl⟩
          have HX : Hid (sortedL g = (stabS ltP (X ++ recT g.x).toArray).toList) := Lib.hid (by rw [← hX]; exact HFIN.out)
          have RS6 : Hid (RcS w RD RL d L g lb n c a es X wr) := Lib.hid (by
            have h9 := HS.out.1
            rw [List.take_of_length_le (by rw [HHL.out]; exact Nat.le_refl _), hX] at h9
            exact h9)
          have hn9 : n ≤ 1800000 := by omega
          clear HS hX HFIN HKO HHO HKL HHL
          have IX := HI.out.later RS6.out.bel
          have BL6 := Lib.hid IX.box
          have PT6 : PtM wr.drew pm g.x.puts := IX.puts.later (Below.refl _ _).drew
          have htk : okI g.x.top := okI_of (by have := G.out.lx.ok.top0; omega) G.out.lx.ok.top1
          obtain ⟨q, hq⟩ : ∃ q, (gA g.x.puts g.x.top).isSome = q := ⟨_, rfl⟩
          have LKT : Hid (∀ W, PtM W pm g.x.puts → (Instr.lookup 58 (.map (some pm)) (.int .i64 g.x.top) true).run Tryz.prog W = .ok (.tuple #[plV (atI g.x g.x.top), .bool q]) W) := Lib.hid (fun W hW => by
            rw [hW.look_ok tyP _ htk, getD_map, hq]
            rfl)
          have HT : Hid (recT g.x = if (!q && decide (0 < g.x.top)) = true then [(nowh, encO ⟨2, g.x.top, ⟨#[]⟩, ⟨#[]⟩, 0, 0⟩)] else []) := Lib.hid (by rw [← hq]; rfl)
          clear hq IX htk
          go_upto_region 16 with fail
          refine wp_region_last 16 (fun w' => PtM w' pm g.x.puts ∧ Box w' L (logC d g.n pm wm g.x.top) 66 ∧ RcS w RD RL d L g lb n c a es X w') (by kernel_rfl) (⟨PT6, BL6.out.drew, RS6.out.later (Below.refl _ _).drew⟩) (fun hHeld hClosed => ?_)
          refine wtk (i := 0) (v := ?_) rfl hClosed (Or.inl ⟨by rfl, ?_⟩) hHeld (fun hClosed => ?_)
          rotate_left
          · intro wv hSw; go_simp; all_goals (with_reducible rfl)
          (try simp only [List.getElem_toArray, List.getElem_cons_zero, put_at, List.set])
          refine wtk (i := 1) (v := ?_) rfl hClosed (Or.inl ⟨by rfl, ?_⟩) hHeld (fun hClosed => ?_)
          rotate_left
          · intro wv hSw; go_simp; all_goals (with_reducible rfl)
          (try simp only [List.getElem_toArray, List.getElem_cons_succ, List.getElem_cons_zero, put_at, List.set])
          refine wtk (i := 2) (v := ?_) rfl hClosed (Or.inl ⟨by rfl, ?_⟩) hHeld (fun hClosed => ?_)
          rotate_left
          · intro wv hSw; go_simp; all_goals (with_reducible rfl)
          (try simp only [List.getElem_toArray, List.getElem_cons_succ, List.getElem_cons_zero, put_at, List.set])
          refine wtk (i := 3) (v := ?_) rfl hClosed (Or.inl ⟨by rfl, ?_⟩) hHeld (fun hClosed => ?_)
          rotate_left
          · intro wv hSw; go_simp; all_goals (with_reducible rfl)
          (try simp only [List.getElem_toArray, List.getElem_cons_succ, List.getElem_cons_zero, put_at, List.set])
          refine wtk (i := 4) (v := ?_) rfl hClosed (Or.inl ⟨by rfl, ?_⟩) hHeld (fun hClosed => ?_)
          rotate_left
          · intro wv hSw; have l2 : wv.cell? ⟨L, 2, none⟩ = some (.map (some pm)) := hSw.2.1.cell 2; have l4 : wv.cell? ⟨L, 4, none⟩ = some (.int .i64 g.x.top) := hSw.2.1.cell 4; have lk9 := LKT.out _ hSw.1; unfold plV plC at lk9; (try dsimp only at lk9); go_simp; all_goals (with_reducible rfl)
          (try simp only [List.getElem_toArray, List.getElem_cons_succ, List.getElem_cons_zero, put_at, List.set])
          refine wtk (i := 5) (v := ?_) rfl hClosed (Or.inl ⟨by rfl, ?_⟩) hHeld (fun hClosed => ?_)
          rotate_left
          · intro wv hSw; go_simp; all_goals (with_reducible rfl)
          (try simp only [List.getElem_toArray, List.getElem_cons_succ, List.getElem_cons_zero, put_at, List.set])
          refine wtk (i := 6) (v := ?_) rfl hClosed (Or.inl ⟨by rfl, ?_⟩) hHeld (fun hClosed => ?_)
          rotate_left
          · intro wv hSw; go_simp; all_goals (with_reducible rfl)
          (try simp only [List.getElem_toArray, List.getElem_cons_succ, List.getElem_cons_zero, put_at, List.set])
          refine wtk (i := 7) (v := ?_) rfl hClosed (Or.inl ⟨by rfl, ?_⟩) hHeld (fun hClosed => ?_)
          rotate_left
          · intro wv hSw; go_simp; all_goals (with_reducible rfl)
          (try simp only [List.getElem_toArray, List.getElem_cons_succ, List.getElem_cons_zero, put_at, List.set])
          refine wtk (i := 8) (v := ?_) rfl hClosed (Or.inl ⟨by rfl, ?_⟩) hHeld (fun hClosed => ?_)
          rotate_left
          · intro wv hSw; go_simp; all_goals (with_reducible rfl)
          (try simp only [List.getElem_toArray, List.getElem_cons_succ, List.getElem_cons_zero, put_at, List.set])
          refine wtk (i := 9) (v := ?_) rfl hClosed (Or.inl ⟨by rfl, ?_⟩) hHeld (fun hClosed => ?_)
          rotate_left
          · intro wv hSw; have l2 : wv.cell? ⟨L, 2, none⟩ = some (.map (some pm)) := hSw.2.1.cell 2; have l4 : wv.cell? ⟨L, 4, none⟩ = some (.int .i64 g.x.top) := hSw.2.1.cell 4; have lk9 := LKT.out _ hSw.1; unfold plV plC at lk9; (try dsimp only at lk9); go_simp; all_goals (with_reducible rfl)
          (try simp only [List.getElem_toArray, List.getElem_cons_succ, List.getElem_cons_zero, put_at, List.set])
          refine wtk (i := 10) (v := ?_) rfl hClosed (Or.inl ⟨by rfl, ?_⟩) hHeld (fun hClosed => ?_)
          rotate_left
          · intro wv hSw; have l2 : wv.cell? ⟨L, 2, none⟩ = some (.map (some pm)) := hSw.2.1.cell 2; have l4 : wv.cell? ⟨L, 4, none⟩ = some (.int .i64 g.x.top) := hSw.2.1.cell 4; have lk9 := LKT.out _ hSw.1; unfold plV plC at lk9; (try dsimp only at lk9); go_simp; all_goals (with_reducible rfl)
          (try simp only [List.getElem_toArray, List.getElem_cons_succ, List.getElem_cons_zero, put_at, List.set])
          refine wtk (i := 11) (v := ?_) rfl hClosed (Or.inl ⟨by rfl, ?_⟩) hHeld (fun hClosed => ?_)
          rotate_left
          · intro wv hSw; go_simp; all_goals (with_reducible rfl)
          (try simp only [List.getElem_toArray, List.getElem_cons_succ, List.getElem_cons_zero, put_at, List.set])
          refine wtk (i := 12) (v := ?_) rfl hClosed (Or.inl ⟨by rfl, ?_⟩) hHeld (fun hClosed => ?_)
          rotate_left
          · intro wv hSw; go_simp; all_goals (with_reducible rfl)
          (try simp only [List.getElem_toArray, List.getElem_cons_succ, List.getElem_cons_zero, put_at, List.set])
          refine wtk (i := 13) (v := ?_) rfl hClosed (Or.inl ⟨by rfl, ?_⟩) hHeld (fun hClosed => ?_)
          rotate_left
          · intro wv hSw; go_simp; all_goals (with_reducible rfl)
          (try simp only [List.getElem_toArray, List.getElem_cons_succ, List.getElem_cons_zero, put_at, List.set])
          refine wpAnyL_one (i := 14) rfl (by kernel_rfl) (by kernel_rfl) hClosed (fun KK hK => ?_)
          go_simp
          refine hK.out _ _ ?_ (fun hClosed hHeld => ?_)
          · exact ⟨hHeld.1.later ((Below.refl _ _).alloc (Nat.le_refl _) _), hHeld.2.1.alloc _, hHeld.2.2.later ((Below.refl _ _).alloc (Nat.le_refl _) _)⟩
          clear hK KK
          (first | simp only [List.getElem_toArray, List.getElem_cons_succ, List.getElem_cons_zero, put_at, List.set] | (try simp only [put_at, List.set]))
          refine wpAnyL_one (i := 15) rfl (by kernel_rfl) (by kernel_rfl) hClosed (fun KK hK => ?_)
          have hbz : Box (wr.drew.alloc (.cells #[.int .i64 0, .int .i64 0, .int .i64 0] 81)) wr.drew.heap.size #[.int .i64 0, .int .i64 0, .int .i64 0] 81 := Box.new _ _ _
          refine step_store_row rfl rfl rfl rfl hbz rfl (by kernel_rfl) (by simp [Value.oneCell']) ?_
          refine hK.out _ _ ?_ (fun hClosed hHeld => ?_)
          · exact ⟨PT6.later (below_row ((Below.refl _ _).alloc (Nat.le_refl _) _) (Nat.le_refl _) _), BL6.out.drew.alloc _ |>.otherRow (by have := BL6.out.lt; show L ≠ wr.heap.size; omega) _, (RS6.out.later (Below.refl _ _).drew).later (below_row ((Below.refl _ _).alloc (Nat.le_refl _) _) (by show wr.heap.size ≤ wr.heap.size; omega) _)⟩
          clear hK KK
          (first | simp only [List.getElem_toArray, List.getElem_cons_succ, List.getElem_cons_zero, put_at, List.set] | (try simp only [put_at, List.set]))
          refine last_forget (fun W => Hid (RcS w RD RL d L g lb n c a es X W)) (Lib.hid hHeld.2.2) ?_
          clear hHeld RS6 BL6 PT6
          intro w7 RS7
          refine wpAnyL_last rfl (by kernel_rfl) (by kernel_rfl) (fun KK hK => ?_)
          go_simp
          refine hK.out _ _ ?_
          (try simp only [put_at, List.set])
          clear hClosed
          obtain ⟨Q, hQ⟩ : ∃ Q, (!q && decide (0 < g.x.top)) = Q := ⟨_, rfl⟩
          have HT2 : Hid (recT g.x = if Q = true then [(nowh, encO ⟨2, g.x.top, ⟨#[]⟩, ⟨#[]⟩, 0, 0⟩)] else []) := Lib.hid (by rw [HT.out, hQ])
          clear HT
          have BL7 := Lib.hid (HI.out.later RS7.out.bel).box
          have l4 : w7.cell? ⟨L, 4, none⟩ = some (.int .i64 g.x.top) := BL7.out.cell 4
          go_upto_region 17 with fail
          go_cut [94] (fun v wx => v = .bool Q ∧ wx = w7)
          case first =>
            cases q with
            | true =>
              obtain rfl : false = Q := hQ
              go_wp2_with fail
              go_meet
              exact ⟨rfl, rfl⟩
            | false =>
              obtain rfl : decide (0 < g.x.top) = Q := hQ
              go_wp2_with fail
              go_meet
              exact ⟨rfl, rfl⟩
          case rest =>
          obtain ⟨rfl, he1⟩ := hcut
          have he1 := he1.symm
          subst he1
          clear hQ
          go_upto_if 94 with fail
          go_cut [] (fun wc => ∃ (n c : Nat) (a : Option Addr) (es : List En), n ≤ 1800001 ∧ Hid (RcS w RD RL d L g lb n c a es (X ++ recT g.x) wc))
          case first =>
            cases Q with
            | false =>
              have RS8 : Hid (RcS w RD RL d L g lb n c a es (X ++ recT g.x) w7) := Lib.hid (by
                rw [show recT g.x = [] from HT2.out, List.append_nil]
                exact RS7.out)
              go_wp2_with fail
              go_meet
              exact ⟨n, c, a, es, by omega, RS8⟩
            | true =>
              have KP := Lib.hid (keep_at (RS7.out.rm.later (Below.refl _ _).drew) (show w.heap.size ≤ w7.drew.heap.size from RS7.out.bel.size) (by omega) nowh ⟨2, g.x.top, ⟨#[]⟩, ⟨#[]⟩, 0, 0⟩)
              have NEXT : Hid (∀ w5, (∃ (a' : Option Addr) (c' : Nat) (x : En), x.p = nowh ∧ x.b = encO ⟨2, g.x.top, ⟨#[]⟩, ⟨#[]⟩, 0, 0⟩ ∧ RecM w5 w.heap.size lb (n + 1) c' a' (es ++ [x]) ∧ Only (fun k => k = lb ∨ a = some ⟨k, 0, none⟩) w7.drew w5 ∧ ∀ k, a' = some ⟨k, 0, none⟩ → a = some ⟨k, 0, none⟩ ∨ w7.drew.heap.size ≤ k) →
                  ∃ (a' : Option Addr) (c' : Nat) (es' : List En), RcS w RD RL d L g lb (n + 1) c' a' es' (X ++ recT g.x) w5 ∧ True) := Lib.hid (fun w5 h5 => by
                obtain ⟨a', c', es', q1, q2⟩ := (RS7.out.later (Below.refl _ _).drew).kept G.out h5
                rw [show recT g.x = _ from HT2.out]
                exact ⟨a', c', es', q1, trivial⟩)
              unfold plV reqL at KP
              dsimp only at KP
              go_upto_region 18 with fail
              refine wp_region_last 8 (fun w' => NowM w' ∧ Box w' L (logC d g.n pm wm g.x.top) 66) (by kernel_rfl) (⟨RS7.out.lg.now.later (Below.refl _ _).drew, BL7.out.drew⟩) (fun hHeld hClosed => ?_)
              refine wtk (i := 0) (v := ?_) rfl hClosed (Or.inl ⟨by rfl, ?_⟩) hHeld (fun hClosed => ?_)
              rotate_left
              · intro wv hSw; go_simp; all_goals (with_reducible rfl)
              (try simp only [List.getElem_toArray, List.getElem_cons_zero, put_at, List.set])
              refine wtk (i := 1) (v := (.agg (plC nowh))) rfl hClosed (Or.inl ⟨by rfl, ?_⟩) hHeld (fun hClosed => ?_)
              · intro wv hSw; exact exec_load_at (by rfl) (by rfl) (now_cells hSw.1) Tryz.underlying81 rfl (by kernel_rfl)
              (try simp only [List.getElem_toArray, List.getElem_cons_succ, List.getElem_cons_zero, put_at, List.set])
              refine wtk (i := 2) (v := ?_) rfl hClosed (Or.inl ⟨by rfl, ?_⟩) hHeld (fun hClosed => ?_)
              rotate_left
              · intro wv hSw; go_simp; all_goals (with_reducible rfl)
              (try simp only [List.getElem_toArray, List.getElem_cons_succ, List.getElem_cons_zero, put_at, List.set])
              refine wtk (i := 3) (v := ?_) rfl hClosed (Or.inl ⟨by rfl, ?_⟩) hHeld (fun hClosed => ?_)
              rotate_left
              · intro wv hSw; go_simp; all_goals (with_reducible rfl)
              (try simp only [List.getElem_toArray, List.getElem_cons_succ, List.getElem_cons_zero, put_at, List.set])
              refine wtk (i := 4) (v := ?_) rfl hClosed (Or.inl ⟨by rfl, ?_⟩) hHeld (fun hClosed => ?_)
              rotate_left
              · intro wv hSw; go_simp; all_goals (with_reducible rfl)
              (try simp only [List.getElem_toArray, List.getElem_cons_succ, List.getElem_cons_zero, put_at, List.set])
              refine wtk (i := 5) (v := ?_) rfl hClosed (Or.inl ⟨by rfl, ?_⟩) hHeld (fun hClosed => ?_)
              rotate_left
              · intro wv hSw; go_simp; all_goals (with_reducible rfl)
              (try simp only [List.getElem_toArray, List.getElem_cons_succ, List.getElem_cons_zero, put_at, List.set])
              refine wtk (i := 6) (v := ?_) rfl hClosed (Or.inl ⟨by rfl, ?_⟩) hHeld (fun hClosed => ?_)
              rotate_left
              · intro wv hSw; have l4 : wv.cell? ⟨L, 4, none⟩ = some (.int .i64 g.x.top) := hSw.2.cell 4; go_simp; all_goals (with_reducible rfl)
              (try simp only [List.getElem_toArray, List.getElem_cons_succ, List.getElem_cons_zero, put_at, List.set])
              refine wtk (i := 7) (v := ?_) rfl hClosed (Or.inl ⟨by rfl, ?_⟩) hHeld (fun hClosed => ?_)
              rotate_left
              · intro wv hSw; go_simp; all_goals (with_reducible rfl)
              (try simp only [List.getElem_toArray, List.getElem_cons_succ, List.getElem_cons_zero, put_at, List.set])
              refine wpAnyL_last rfl (by kernel_rfl) (by kernel_rfl) (fun KK hK => ?_)
              have KP9 := Lib.hid KP.out
              clear hHeld
              go_simp
              refine KP9.out.mono ?_
              rintro e w4 ⟨rfl, hkp⟩
              obtain ⟨a', c', es', hn4, hk4⟩ := NEXT.out w4 hkp
              have NX := Lib.hid hn4
              clear hn4 hk4 hkp NEXT KP9 KP
              go_wp2_with fail
              refine hK.out _ _ ?_
              (try simp only [put_at, List.set])
              go_wp2_with fail
              go_meet
              exact ⟨n + 1, c', a', es', by omega, NX⟩
          case rest =>
          obtain ⟨n, c, a, es, hn9, RS9⟩ := hcut
          have l0 : wc.cell? ⟨lb, 0, none⟩ = some (.slice a n c) := RS9.out.rm.box.cell 0
          have O9 := Lib.hid RS9.out.rm.own
          have HB9 := RS9.out.bel.size
          obtain ⟨es', hes⟩ : ∃ es', (stabS ltE es.toArray).toList = es' := ⟨_, rfl⟩
          have HES : Hid (es'.map fE = sortedL g ∧ es'.Perm es) := Lib.hid ⟨by rw [← hes, fE_stab, HX.out, RS9.out.eq], by rw [← hes]; exact pm_stabS ltE es.toArray⟩
          have SRT : Hid (Calls Tryz.prog 107 #[.slice a n c, .func (.func 108) #[] #[]] wc fun e w' => e = .returned (.tuple #[]) ∧ Own w' w.heap.size 152 4 a n c (flE enE es') ∧ Only (fun k => a = some ⟨k, 0, none⟩) wc w') := Lib.hid (by
            rcases RS9.out.rm.own.form with ⟨rfl, rfl, rfl⟩ | ⟨g5, rfl, _, _⟩
            · refine (sortStable_none none 0 wc).mono ?_
              rintro e w' ⟨rfl, rfl⟩
              have e0 : es = [] := List.eq_nil_of_length_eq_zero RS9.out.rm.len
              have e1 : es' = [] := by
                have h9 := HES.out.2.length_eq
                rw [e0] at h9
                exact List.eq_nil_of_length_eq_zero h9
              rw [e1]
              exact ⟨rfl, Own.nil _ _ _ _, Only.refl _ _⟩
            · refine (sortStable_at (w0 := wc) (B := w.heap.size) (d := es.toArray) ⟨RS9.out.rm.own, Only.refl _ _, by simpa using RS9.out.rm.len⟩ (by omega)).mono ?_
              rintro e w' ⟨rfl, hw⟩
              refine ⟨rfl, ?_, hw.only.wide (fun k hk => by rw [hk])⟩
              rw [← hes]
              exact hw.own)
          clear hes
          go_upto_region 19 with fail
          go_wp2_with fail
          refine SRT.out.mono ?_
          rintro e w9 ⟨rfl, ho9, hon⟩
          have FIN : Hid (Own w9 w.heap.size 152 4 a n c (flE enE es') ∧ es'.length = n ∧ (∀ e ∈ es', e.b.length = e.n ∧ Own w9 w.heap.size 5 1 e.a e.n e.c (u8L e.b)) ∧ (es'.Pairwise fun x y => ∀ g, x.a = some ⟨g, 0, none⟩ → y.a ≠ some ⟨g, 0, none⟩) ∧ es'.map fE = sortedL g ∧ Below w.heap.size w w9) := Lib.hid (by
            obtain ⟨q1, q2⟩ := HES.out
            refine ⟨ho9, by rw [q2.length_eq]; exact RS9.out.rm.len, fun e he => ?_, ?_, q1, RS9.out.bel.trans (hon.below HB9 (fun k hk => (own_lt RS9.out.rm.own hk).2))⟩
            · obtain ⟨k1, k2⟩ := RS9.out.rm.byt e (q2.mem_iff.1 he)
              exact ⟨k1, k2.only hon (fun k hk hk2 => own_apart k2 RS9.out.rm.own hk hk2 (by decide))⟩
            · exact (q2.pairwise_iff (fun {x y} hxy g hy hx => hxy g hx hy)).2 RS9.out.rm.ne)
          have l9 : w9.cell? ⟨lb, 0, none⟩ = some (.slice a n c) := (cell_blk (hon.block lb RS9.out.rm.box.lt (fun hk => own_not_box (hk ▸ RS9.out.rm.own) RS9.out.rm.box (by decide) rfl)) 0).trans l0
          clear ho9 hon SRT HES O9 l0 RS9
          go_wp2_with fail
          go_ret
          exact ⟨n, c, a, es', rfl, by omega, FIN.out⟩
end Go.Proofs.YtimkgaokcldgkaaGreatDoor
