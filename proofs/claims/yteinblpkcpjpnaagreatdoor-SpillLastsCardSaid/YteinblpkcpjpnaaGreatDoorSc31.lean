/- Part of a chain: SpKyS, SpLod, SpPen, SpRom, SpWri, SpDrp, SrSwr, SrRot. -/
import Derived.Test.YteinblpkcpjpnaaGreatDoorSc17
import Derived.Test.YteinblpkcpjpnaaGreatDoorSc29
import Derived.Test.YteinblpkcpjpnaaGreatDoorSc30
import Derived.Sort.KeysCollected
import Derived.Sort.OwnSorted
import Derived.Maps.RangeWalk
import Derived.Laws.IdiomRangeMap
import Derived.Test.YteinblpkcpjpnaaGreatDoorSc05
import Derived.Test.YteinblpkcpjpnaaGreatDoorSc06
/- Package spill: the keys of the map of waits, rising. -/
namespace Go.Proofs.YteinblpkcpjpnaaGreatDoor
open Go Go.RowKit Go.Maps Go.Sort Go.Shelf
set_option linter.unusedVariables false
set_option linter.unusedSimpArgs false
set_option maxRecDepth 10000

def stL (l : List (List UInt8)) : List Value := l.map encStr
def srtB (l : List (List UInt8)) : List (List UInt8) := l.mergeSort leB
theorem rowS : RowTy Tryz.prog 48 9 1 16 := ⟨Tryz.underlying48, ⟨.string ⟨#[]⟩, by kernel_rfl, rfl⟩, by decide⟩
theorem sortS_at {w : World} {B n c : Nat} {a : Option Addr} (ss : List (List UInt8)) (hn : ss.length = n) (h : Own w B 9 1 a n c (stL ss)) (hB : B ≤ w.heap.size) (hf : n ≤ 100000000) :
    Calls Tryz.prog 71 #[.slice a n c] w fun e w' => e = .returned (.tuple #[]) ∧ Own w' B 9 1 a n c (stL (srtB ss)) ∧ Below B w w' := by
  subst hn
  by_cases h0 : ss.length = 0
  · have hs : ss = [] := List.eq_nil_of_length_eq_zero h0
    subst hs
    refine (AnyM.slices_Sort_string_none Tryz.sortS a c w).mono ?_
    rintro e w' ⟨rfl, rfl⟩
    have e0 : srtB [] = [] := by simp [srtB]
    rw [e0]
    exact ⟨rfl, h, Below.refl _ _⟩
  · rcases h.2 with ⟨_, e0⟩ | ⟨g, cap, cur, e, hBg, hg, h1, h2, h3, h4⟩
    · exact absurd e0 h0
    · injection e with e1 e2 e3
      subst e1 e3
      rw [Nat.mul_one] at h4
      refine (AnyM.slices_Sort_string Tryz.sortS g 0 c ss w (holds_of_block hg h4) (Array.getElem?_eq_some_iff.1 hg).1 (by omega)).mono ?_
      rintro e w' ⟨rfl, k, os, rfl⟩
      exact ⟨rfl, ownsRow_sorted (by rw [List.length_mergeSort]) hBg hg h1 h2 h3, (Below.refl _ w).grown (grownBy_sorted _) hB (fun k hk => by injection hk with hk; omega)⟩
/-- What the loop holds. -/
structure KeyLs (w : World) (pm : Nat) (N : Nat) (D : DataW Value) (left : Lit → Bool) (cnt : Nat) (ss : List (List UInt8)) (n c : Nat) (a : Option Addr) (wr : World) : Prop where
  rg : wr.ranges Tryz.prog 9 RHm pm w.heap.size N D left cnt
  tot : ss.length + cnt ≤ N
  col : Collected D left ss
  len : ss.length = n
  own : Own wr w.heap.size 9 1 a n c (stL ss)
  bel : Below w.heap.size w wr
set_option maxHeartbeats 2000000 in
theorem keysS_at {w : World} {pm : Nat} {S : List (ByteArray × Wt)} (h : WtM1 w pm S) (n : Nat) (hn : S.length = n) (hf : n ≤ 1000000) :
    Calls Tryz.prog 61 #[.map (some pm)] w fun e w' => ∃ a c, e = .returned (.slice a n c) ∧ Own w' w.heap.size 9 1 a n c (stL (srtB (S.map (fun p => p.1.data.toList)))) ∧ Below w.heap.size w w' := by
  obtain ⟨D, es, hes, hown, hperm, _, _⟩ := h.keys tyW
  rw [hn] at hown
  have hsz : Maps.size D ≤ n := hown.size_le
  have HP : Hid ((S.map (fun p => p.1.data.toList)).Perm (strKeys D)) := Lib.hid (by
    have := hperm.map (_root_.Go.strOf : Lit → List UInt8)
    rw [List.map_map, List.map_map] at this
    rw [hes]
    exact this)
  have HPM := Lib.hid h.lt
  have HOWN := Lib.hid hown
  have HN := Lib.hid hn
  clear hperm hes h hn
  go_enter Tryz.func61, Tryz.ntmps61
  go_wp2_with (first | (at_range; refine wpList_range_own _ rfl _ 64 rfl 9 84 tyW.key tyW.und RHm pm n D rfl HOWN.out ?_; intro w0 hrg0 hg0 hs0) | go_in)
  go_frame
  go_loopw [3] (fun vl wr => ∃ (left : Lit → Bool) (cnt : Nat) (ss : List (List UInt8)) (k c : Nat) (a : Option Addr), vl = .slice a k c ∧ k ≤ n ∧ Hid (KeyLs w pm n D left cnt ss k c a wr)) (fun _ wr => wr.rangeLeft pm w.heap.size)
  case atStart => exact ⟨_, _, [], 0, 0, none, rfl, by omega, Lib.hid ⟨hrg0, by simpa using hsz, Collected.start D, rfl, Own.nil _ _ _ _, (Below.refl _ w).grown hg0 (Nat.le_refl _) (fun k hk => by cases hk)⟩⟩
  case round =>
    obtain ⟨left, cnt, ss, k, c, a, rfl, hk, HK⟩ := hrel
    go_wp2_with (first
      | (at_next; refine wpList_next_ranges _ rfl _ rfl 9 tyW.key RHm encStr id (fun key kl hk => by obtain ⟨x, hx, _⟩ := Maps.keyOf_str Tryz.underlying9 hk; exact ⟨x, hx⟩) (fun v _ _ => ⟨v, rfl⟩) pm w.heap.size n _ _ _ rfl HK.out.rg ?_ ?_)
      | go_in)
    · intro hc0 hl0
      have HKP : Hid (ss.Perm (S.map (fun p => p.1.data.toList))) := Lib.hid ((HK.out.col.perm HOWN.out tyW.key Tryz.underlying9 hl0).trans HP.out.symm)
      have SRT := Lib.hid (fun (hkn : k ≤ 100000000) => sortS_at ss HK.out.len HK.out.own HK.out.bel.size hkn)
      go_wp2_with fail
      refine (SRT.out (by omega)).mono ?_
      rintro e w5 ⟨rfl, ho, hb⟩
      have HO := Lib.hid ho
      have HB := Lib.hid (HK.out.bel.trans hb)
      clear ho hb SRT
      go_wp2_with fail
      go_ret
      obtain rfl : k = n := by
        have := HKP.out.length_eq
        rw [List.length_map, HN.out, HK.out.len] at this
        exact this
      refine ⟨a, c, rfl, ?_, HB.out⟩
      have e1 : srtB ss = srtB (S.map (fun p => p.1.data.toList)) := mergeSort_of_perm HKP.out
      rw [← e1]
      exact HO.out
    · intro x cc kl yd yp w2 cnt2 hkey hlk hv hat hrg2 hlt hg2 hs2 hen
      obtain ⟨x', ex, rfl, hwf⟩ := Maps.keyOf_str Tryz.underlying9 hkey
      obtain rfl : x = x' := encStr_inj ex
      have hit := HK.out.rg.iter_walk
      have O2 := Lib.hid (own_keptK HK.out.own hg2 hit)
      have B2 := Lib.hid (HK.out.bel.grown hg2 HK.out.bel.size (fun k hk => by injection hk with hk; omega))
      have RG2 := Lib.hid hrg2
      have COL := Lib.hid (HK.out.col.step hlk hat)
      have hkl : k + 1 ≤ n := by have := HK.out.tot; have := HK.out.len; omega
      have TOT : Hid ((ss ++ [x]).length + cnt2 ≤ n) := Lib.hid (by have := HK.out.tot; rw [List.length_append, List.length_singleton]; omega)
      have LEN : Hid ((ss ++ [x]).length = k + 1) := Lib.hid (by rw [List.length_append, HK.out.len]; rfl)
      have HZ : Hid (stL ss ++ #[encStr x].toList = stL (ss ++ [x])) := Lib.hid (by unfold stL; simp)
      have LT := Lib.hid hlt
      have L0 := Lib.hid HK.out.rg.left_eq
      have NEW : Hid (∀ (w5 : World) (g5 c5 : Nat), Own w5 w.heap.size 9 1 (some ⟨g5, 0, none⟩) (k + 1) c5 (stL (ss ++ [x])) → w2.grownBy w5 (a.map (·.block)) → Below w.heap.size w2 w5 → KeyLs w pm n D (fun z => left z && !z.sameKey (.string x)) cnt2 (ss ++ [x]) (k + 1) c5 (some ⟨g5, 0, none⟩) w5) := Lib.hid (fun w5 g5 c5 p1 p2 p3 => ⟨RG2.out.kept p2 (fun e => by have := (own_ne_iter O2.out RG2.out.iter_walk e.symm).2; have := HPM.out; omega) (fun e => (own_ne_iter O2.out RG2.out.iter_walk e.symm).1 rfl), TOT.out, COL.out, LEN.out, p1, B2.out.trans p3⟩)
      clear hs2 hit hg2 hrg2 hlk hat hkey hlt
      go_wp2_with (at_builtin; refine wpList_app1 rowS rfl _ _ rfl w.heap.size a k c (stL ss) rfl O2.out #[encStr x] rfl rfl (by simp [encStr, Value.oneCell']) (by omega) (by decide) B2.out.size (k + 1) rfl (stL (ss ++ [x])) HZ.out ?_; rintro g5 c5 w5 p1 p2 p3 p4; have NX := Lib.hid (NEW.out _ _ _ p1 p2 p3); clear p1 p2 p3 p4 O2 B2)
      go_roundw
      case rel => exact ⟨_, cnt2, ss ++ [x], k + 1, _, _, rfl, hkl, NX⟩
      case measure => rw [NX.out.rg.left_eq, L0.out]; exact LT.out
theorem keysS_nil (w : World) : Calls Tryz.prog 61 #[.map none] w fun e w' => e = .returned (.slice none 0 0) ∧ Below w.heap.size w w' := by
  have hr := run_range_nilMap (P := Tryz.prog) w 64 _ _ Tryz.underlying64
  have hnx : ∀ ty, (Instr.next (.pointer (some ⟨w.heap.size, 0, none⟩)) false ty).run Tryz.prog (w.alloc (.mapIter none 0 #[] 0)) = _ := fun ty => run_next_nilMap _ ty 0 0 #[]
  have SRT := Lib.hid (fun W => AnyM.slices_Sort_string_none Tryz.sortS none 0 W)
  have hb : Below w.heap.size w (w.alloc (.mapIter none 0 #[] 0)) := (Below.refl _ _).alloc (Nat.le_refl _) _
  go_enter Tryz.func61, Tryz.ntmps61
  go_wp2
  refine wp_loop_rounds 1 ?_
  rw [rounds_succ]
  go_wp2_with fail
  refine (SRT.out _).mono ?_
  rintro e w' ⟨rfl, rfl⟩
  go_wp2_with fail
  go_ret
  exact ⟨rfl, hb⟩
/-- The keys of the map of waits, if there is one. -/
theorem keysW_at {w : World} {wm : Option Nat} {S : List (ByteArray × Wt)} (h : WtM w wm S) (n : Nat) (hn : S.length = n) (hf : n ≤ 1000000) :
    Calls Tryz.prog 61 #[.map wm] w fun e w' => ∃ a c, e = .returned (.slice a n c) ∧ Own w' w.heap.size 9 1 a n c ((srtS (S.map Prod.fst)).map Value.string) ∧ Below w.heap.size w w' := by
  rcases h with ⟨rfl, rfl⟩ | ⟨m, rfl, h⟩
  · refine (keysS_nil w).mono ?_
    rintro e w' ⟨rfl, hb⟩
    obtain rfl : 0 = n := hn
    have e0 : (srtS ([] : List ByteArray)) = [] := by simp [srtS]
    refine ⟨none, 0, rfl, ?_, hb⟩
    show Own w' w.heap.size 9 1 none 0 0 ((srtS ([] : List ByteArray)).map Value.string)
    rw [e0]
    exact Own.nil _ _ _ _
  · refine (keysS_at h n hn hf).mono ?_
    rintro e w' ⟨a, c, rfl, ho, hb⟩
    refine ⟨a, c, rfl, ?_, hb⟩
    have e0 : (srtS (S.map Prod.fst)).map Value.string = stL (srtB (S.map fun p => p.1.data.toList)) := by
      unfold srtS stL srtB
      rw [List.map_map, List.map_map]
      rfl
    rw [e0]
    exact ho
end Go.Proofs.YteinblpkcpjpnaaGreatDoor
/- Package spill: Load of a log. Written by gen_load.py. -/
namespace Go.Proofs.YteinblpkcpjpnaaGreatDoor
open Go Go.RowKit Go.Maps
set_option linter.unusedVariables false
set_option linter.unusedSimpArgs false
set_option maxRecDepth 100000

theorem DkM.drew_ {w : World} {R : Nat → Prop} {d : Nat} {D : Ds} (h : DkM w R d D) : DkM w.drew R d D := h.later (Below.refl _ w).drew
theorem LgM.rd {w : World} {RD RL : Nat → Prop} {d L : Nat} {g : Lg} (h : LgM w RD RL d L g) : RD d := by
  obtain ⟨bm, uc, V, ua, hd, hm⟩ := h.dk.dm
  exact hm d (Or.inl rfl)
theorem atI_ok {x : Ix} (h : IxOk x) (id : Int) : PlOk (atI x id) := by
  unfold atI
  cases hg : gA x.puts id with
  | none => exact plOk_zero
  | some p => exact (h.puts id p hg).1
set_option maxHeartbeats 2000000 in
theorem load_at {w : World} {RD RL : Nat → Prop} {d L : Nat} {g : Lg} (h : LgM w RD RL d L g) (id : Int) (hid : okI id) :
    Calls Tryz.prog 23 #[.pointer (some ⟨L, 0, none⟩), .int .i64 id] w fun e w' => e = .returned (.tuple #[.agg (reqL ((loadL g id).getD rc0)).toArray, .bool (loadL g id).isSome]) ∧ Below w.heap.size w w' := by
  obtain ⟨pm, wm, hi, hmi⟩ := h.lx.ix
  obtain ⟨q, hq⟩ : ∃ q, (gA g.x.puts id).isSome = q := ⟨_, rfl⟩
  have LE : Hid (loadL g id = if q = true then rdL g.D.S (atI g.x id) else none) := Lib.hid (by rw [← hq]; rfl)
  have hpk := atI_ok h.lx.ok id
  obtain ⟨p, hp⟩ : ∃ p, atI g.x id = p := ⟨_, rfl⟩
  have LK : Hid (∀ W, PtM W pm g.x.puts → (Instr.lookup 63 (.map (some pm)) (.int .i64 id) true).run Tryz.prog W = .ok (.tuple #[plV p, .bool q]) W) := Lib.hid (fun W hW => by
    rw [hW.look_ok tyP id hid, getD_map, hq, ← hp]
    rfl)
  have RDA := Lib.hid (fun (W : World) (hW : DkM W RD d g.D) => ksread_at hW p (hp ▸ hpk))
  rw [hp] at LE
  have G := Lib.hid h
  have HRd := Lib.hid h.rd
  have HRL := Lib.hid (hmi L (Or.inl rfl))
  have BL := Lib.hid hi.box
  have PT := Lib.hid hi.puts
  obtain ⟨p1, p2, p3⟩ := p
  clear hq hp hpk hi hmi h
  go_enter Tryz.func23, Tryz.ntmps23
  go_upto_region 1 with fail
  refine code_forget (fun W => Hid (Box W w.heap.size #[.int .i64 0, .string ⟨#[]⟩, .string ⟨#[]⟩, .int .i64 0, .int .i64 0] 31) ∧ Hid (Below w.heap.size w W)) ⟨Lib.hid (Box.new w _ _), Lib.hid ((Below.refl w.heap.size w).alloc (Nat.le_refl _) _)⟩ ?_
  obtain ⟨rb, hrb⟩ : ∃ p, w.heap.size = p := ⟨_, rfl⟩
  have HRB := Lib.hid hrb
  rw [hrb]
  rintro w1 ⟨BR1, B1⟩
  rw [← HRB.out] at B1
  clear hrb
  have HNR : Hid (¬ RD rb ∧ ¬ RL rb) := Lib.hid ⟨fun e => by have := G.out.dk.lt _ e; have := HRB.out; omega, fun e => by have := G.out.lx.lt _ e; have := HRB.out; omega⟩
  have BL1 := Lib.hid (BL.out.later B1.out)
  have c2 : w1.cell? ⟨L, 2, none⟩ = some (.map (some pm)) := BL1.out.cell 2
  have lk := LK.out _ (PT.out.later B1.out)
  unfold plV plC at lk
  dsimp only at lk
  cases q with
  | false =>
    go_upto_region 5 with fail
    obtain ⟨pb, hpb⟩ : ∃ p, w1.heap.size = p := ⟨_, rfl⟩
    have BZ : Hid (Below w.heap.size w (w1.alloc (.cells #[.int .i64 p1, .int .i64 p2, .int .i64 p3] 76))) := Lib.hid (B1.out.alloc B1.out.size _)
    have BR2 : Hid (Box (w1.alloc (.cells #[.int .i64 p1, .int .i64 p2, .int .i64 p3] 76)) rb #[.int .i64 0, .string ⟨#[]⟩, .string ⟨#[]⟩, .int .i64 0, .int .i64 0] 31) := Lib.hid (BR1.out.alloc _)
    have FIN := Lib.hid (BR2.out.setRow #[.int .i64 0, .string ⟨#[]⟩, .string ⟨#[]⟩, .int .i64 0, .int .i64 0])
    have BF := Lib.hid (below_row (g := rb) BZ.out (by have := HRB.out; omega) #[.int .i64 0, .string ⟨#[]⟩, .string ⟨#[]⟩, .int .i64 0, .int .i64 0])
    go_wp2_with (refine wpList_storeRow rfl rfl rfl rfl BR2.out rfl (by kernel_rfl) (by simp [Value.oneCell']) ?_)
    refine bodyPost_ret (results_cell_tmp Tryz.results23 rfl (req_row FIN.out rfl)) rfl ?_
    exact ⟨by rw [LE.out]; rfl, BF.out⟩
  | true =>
    go_upto_region 6 with fail
    refine code_forget (fun W => Hid (Box W w1.heap.size #[.int .i64 p1, .int .i64 p2, .int .i64 p3] 76) ∧ Hid (Below w1.heap.size w1 W)) ⟨Lib.hid (Box.new w1 _ _), Lib.hid ((Below.refl w1.heap.size w1).alloc (Nat.le_refl _) _)⟩ ?_
    obtain ⟨pb, hpb⟩ : ∃ p, w1.heap.size = p := ⟨_, rfl⟩
    have HPB : Hid (rb < pb) := Lib.hid (by have := BR1.out.lt; omega)
    rintro w2 ⟨BPB, hb2⟩
    rw [hpb] at BPB ⊢
    have B3 := Lib.hid (B1.out.trans (hb2.out.mono B1.out.size))
    have BRB := Lib.hid (BR1.out.later hb2.out)
    have G0 := G
    clear G
    have G := Lib.hid (G0.out.later B3.out)
    have BL0 := Lib.hid (BL1.out.later hb2.out)
    clear BL
    have BL := BL0
    clear hpb hb2 c2 lk BL0 BL1 BR1 B1 G0
    refine wp_region_last 9 (fun w' => DkM w' RD d g.D ∧ Box w' L (logC d g.n pm wm g.x.top) 70 ∧ Box w' pb #[.int .i64 p1, .int .i64 p2, .int .i64 p3] 76 ∧ Below w.heap.size w w' ∧ ∃ cs : Array Value, Box w' rb cs 31 ∧ cs.size = 5) (by kernel_rfl) (⟨G.out.dk.drew_, BL.out.drew, BPB.out.drew, B3.out.drew, _, BRB.out.drew, rfl⟩) (fun hHeld hClosed => ?_)
    refine wpAnyL_take (i := 0) (v := ?_) rfl (by kernel_rfl) (by kernel_rfl) (by kernel_rfl) (by kernel_rfl) (fun _ _ _ h => h) (by kernel_rfl) hClosed (Or.inl ⟨by rfl, ?_⟩) hHeld (fun hClosed => ?_)
    rotate_left
    · intro wv hSw; go_simp; all_goals (with_reducible rfl)
    (try simp only [List.getElem_toArray, List.getElem_cons_zero, put_at, List.set])
    refine wpAnyL_take (i := 1) (v := ?_) rfl (by kernel_rfl) (by kernel_rfl) (by kernel_rfl) (by kernel_rfl) (fun _ _ _ h => h) (by kernel_rfl) hClosed (Or.inl ⟨by rfl, ?_⟩) hHeld (fun hClosed => ?_)
    rotate_left
    · intro wv hSw; go_simp; all_goals (with_reducible rfl)
    (try simp only [List.getElem_toArray, List.getElem_cons_succ, List.getElem_cons_zero, put_at, List.set])
    refine wpAnyL_take (i := 2) (v := ?_) rfl (by kernel_rfl) (by kernel_rfl) (by kernel_rfl) (by kernel_rfl) (fun _ _ _ h => h) (by kernel_rfl) hClosed (Or.inl ⟨by rfl, ?_⟩) hHeld (fun hClosed => ?_)
    rotate_left
    · intro wv hSw; go_simp; all_goals (with_reducible rfl)
    (try simp only [List.getElem_toArray, List.getElem_cons_succ, List.getElem_cons_zero, put_at, List.set])
    refine wpAnyL_take (i := 3) (v := ?_) rfl (by kernel_rfl) (by kernel_rfl) (by kernel_rfl) (by kernel_rfl) (fun _ _ _ h => h) (by kernel_rfl) hClosed (Or.inl ⟨by rfl, ?_⟩) hHeld (fun hClosed => ?_)
    rotate_left
    · intro wv hSw; have c0 : wv.cell? ⟨L, 0, none⟩ = some (.pointer (some ⟨d, 0, none⟩)) := hSw.2.1.cell 0; go_simp; all_goals (with_reducible rfl)
    (try simp only [List.getElem_toArray, List.getElem_cons_succ, List.getElem_cons_zero, put_at, List.set])
    refine wpAnyL_take (i := 4) (v := (plV ⟨p1, p2, p3⟩)) rfl (by kernel_rfl) (by kernel_rfl) (by kernel_rfl) (by kernel_rfl) (fun _ _ _ h => h) (by kernel_rfl) hClosed (Or.inl ⟨by rfl, ?_⟩) hHeld (fun hClosed => ?_)
    · intro wv hSw; exact exec_load_box (by rfl) (by rfl) hSw.2.2.1 Tryz.underlying76 rfl (by kernel_rfl)
    (try simp only [List.getElem_toArray, List.getElem_cons_succ, List.getElem_cons_zero, put_at, List.set])
    refine wpAnyL_one (i := 5) rfl (by kernel_rfl) (by kernel_rfl) hClosed (fun KK hK => ?_)
    go_simp
    refine (RDA.out _ hHeld.1).mono ?_
    rintro e wx ⟨rfl, hwx⟩
    obtain ⟨z1, z2, z3, z4, z5, hz⟩ := hHeld
    go_wp2_with fail
    refine hK.out _ _ ?_ (fun hClosed hHeld => ?_)
    · exact ⟨z1.later hwx, z2.later hwx, z3.later hwx, z4.trans (hwx.mono z4.size), z5, hz.1.later hwx, hz.2⟩
    clear hK KK
    (first | simp only [List.getElem_toArray, List.getElem_cons_succ, List.getElem_cons_zero, put_at, List.set] | (try simp only [put_at, List.set]))
    refine wpAnyL_take (i := 6) (v := ?_) rfl (by kernel_rfl) (by kernel_rfl) (by kernel_rfl) (by kernel_rfl) (fun _ _ _ h => h) (by kernel_rfl) hClosed (Or.inl ⟨by rfl, ?_⟩) hHeld (fun hClosed => ?_)
    rotate_left
    · intro wv hSw; go_simp; all_goals (with_reducible rfl)
    (try simp only [List.getElem_toArray, List.getElem_cons_succ, List.getElem_cons_zero, put_at, List.set])
    refine wpAnyL_take (i := 7) (v := ?_) rfl (by kernel_rfl) (by kernel_rfl) (by kernel_rfl) (by kernel_rfl) (fun _ _ _ h => h) (by kernel_rfl) hClosed (Or.inl ⟨by rfl, ?_⟩) hHeld (fun hClosed => ?_)
    rotate_left
    · intro wv hSw; go_simp; all_goals (with_reducible rfl)
    (try simp only [List.getElem_toArray, List.getElem_cons_succ, List.getElem_cons_zero, put_at, List.set])
    refine wpAnyL_one (i := 8) rfl (by kernel_rfl) (by kernel_rfl) hClosed (fun KK hK => ?_)
    obtain ⟨z1, z2, z3, z4, z5, hz⟩ := hHeld
    refine step_store_row rfl rfl rfl rfl hz.1 (by rw [hz.2]; rfl) (by kernel_rfl) (by simp [reqL, Value.oneCell']) ?_
    have hnd : d ≠ rb ∧ L ≠ rb ∧ pb ≠ rb := ⟨fun e => HNR.out.1 (e ▸ HRd.out), fun e => HNR.out.2 (e ▸ HRL.out), by have := HPB.out; have := HRB.out; omega⟩
    have BZ := Lib.hid (hz.1.setRow (reqL ((rdL g.D.S ⟨p1, p2, p3⟩).getD rc0)).toArray)
    refine hK.out _ _ ?_ (fun hClosed hHeld => ?_)
    · exact ⟨z1.only ((Only.refl (fun k => k = rb) _).setRow (Or.inl rfl) _) (fun k hk e => HNR.out.1 (e ▸ hk)), z2.otherRow hnd.2.1 _, z3.otherRow hnd.2.2 _, below_row z4 (by have := HRB.out; omega) _, _, hz.1.setRow _, rfl⟩
    clear hK KK
    (first | simp only [List.getElem_toArray, List.getElem_cons_succ, List.getElem_cons_zero, put_at, List.set] | (try simp only [put_at, List.set]))
    refine wpAnyL_last rfl (by kernel_rfl) (by kernel_rfl) (fun KK hK => ?_)
    go_simp
    refine hK.out _ _ ?_
    (try simp only [put_at, List.set])
    go_wp2_with fail
    refine bodyPost_ret (results_cell_tmp Tryz.results23 rfl (req_row BZ.out rfl)) rfl ?_
    exact ⟨by have h9 := LE.out; simp only [if_true] at h9; rw [h9]; rfl, hHeld.2.2.2.1⟩
end Go.Proofs.YteinblpkcpjpnaaGreatDoor
/- Package spill: Pending of a log. -/
namespace Go.Proofs.YteinblpkcpjpnaaGreatDoor
open Go Go.RowKit Go.Maps
set_option linter.unusedVariables false
set_option linter.unusedSimpArgs false
set_option maxRecDepth 100000

def flatQ (rs : List Rc) : List Value := rs.flatMap reqL
theorem rowQ : RowTy Tryz.prog 29 31 5 56 := ⟨Tryz.underlying29, ⟨.agg #[.int .i64 0, .string ⟨#[]⟩, .string ⟨#[]⟩, .int .i64 0, .int .i64 0], by kernel_rfl, rfl⟩, by decide⟩
theorem reqL_one (r : Rc) : ∀ u ∈ reqL r, u.oneCell' = true := by intro u hu; simp [reqL] at hu; rcases hu with rfl | rfl | rfl | rfl | rfl <;> rfl
theorem flatQ_snoc (l : List Rc) (r : Rc) : flatQ (l ++ [r]) = flatQ l ++ reqL r := by unfold flatQ; simp
theorem flatQ_len (l : List Rc) : (flatQ l).length = l.length * 5 := by
  induction l with
  | nil => rfl
  | cons r t ih =>
    have e : flatQ (r :: t) = reqL r ++ flatQ t := by simp [flatQ]
    rw [e, List.length_append, ih, List.length_cons]
    show 5 + _ = _
    omega
theorem flatQ_at {j : Nat} (hj : j < 5) : ∀ {rs : List Rc} {i : Nat} {r : Rc}, rs[i]? = some r → (flatQ rs)[i * 5 + j]? = (reqL r)[j]?
  | [], i, r, h => by simp at h
  | q :: t, i, r, h => by
    have e : flatQ (q :: t) = reqL q ++ flatQ t := by simp [flatQ]
    rw [e]
    cases i with
    | zero =>
      have := Option.some.inj (by simpa using h)
      subst this
      rw [Nat.zero_mul, Nat.zero_add, List.getElem?_append_left (by simpa [reqL] using hj)]
    | succ i =>
      rw [List.getElem?_append_right (by show (reqL q).length ≤ _; simp [reqL]; omega), show (i + 1) * 5 + j - (reqL q).length = i * 5 + j by simp [reqL]; omega]
      exact flatQ_at hj (by simpa using h)
/-- The loop. -/
structure PenL (w : World) (RD RL : Nat → Prop) (d L : Nat) (g : Lg) (ks : List Int) (B : Nat) (ka : Option Addr) (K kc k m c : Nat) (a : Option Addr) (wr : World) : Prop where
  lg : LgM wr RD RL d L g
  kown : Own wr B 3 1 ka K kc (inL ks)
  len : ((ks.take k).filterMap (loadL g)).length = m
  own : Own wr w.heap.size 31 5 a m c (flatQ ((ks.take k).filterMap (loadL g)))
  bel : Below w.heap.size w wr
theorem PenL.later {w : World} {RD RL : Nat → Prop} {d L : Nat} {g : Lg} {ks : List Int} {B : Nat} {ka : Option Addr} {K kc k m c : Nat} {a : Option Addr} {wr w' : World} (h : PenL w RD RL d L g ks B ka K kc k m c a wr) (hb : Below wr.heap.size wr w') : PenL w RD RL d L g ks B ka K kc k m c a w' :=
  ⟨h.lg.later hb, h.kown.later hb, h.len, h.own.later hb, h.bel.trans (hb.mono h.bel.size)⟩
theorem srtI_len (l : List Int) : (srtI l).length = l.length := by unfold srtI; rw [List.length_mergeSort]
theorem srtI_mem {l : List Int} {x : Int} : x ∈ srtI l ↔ x ∈ l := by unfold srtI; exact List.mem_mergeSort
theorem LgM.keys_ok {w : World} {RD RL : Nat → Prop} {d L : Nat} {g : Lg} (h : LgM w RD RL d L g) : ∀ id ∈ srtI (g.x.puts.map Prod.fst), okI id := fun id hid => by
  obtain ⟨pm, wm, hi, hmi⟩ := h.lx.ix
  obtain ⟨p, hp, rfl⟩ := List.mem_map.1 (srtI_mem.1 hid)
  exact hi.puts.kk p hp
theorem filterMap_le {α β : Type} (f : α → Option β) (l : List α) (k : Nat) : ((l.take k).filterMap f).length ≤ k := Nat.le_trans (List.length_filterMap_le _ _) (by rw [List.length_take]; omega)
set_option maxHeartbeats 4000000 in
theorem pend_at {w : World} {RD RL : Nat → Prop} {d L : Nat} {g : Lg} (h : LgM w RD RL d L g) (hf : Few g.x) (P : List Rc) (hP : pendL g = P) (M : Nat) (hM : P.length = M) :
    Calls Tryz.prog 19 #[.pointer (some ⟨L, 0, none⟩)] w fun e w' => ∃ a c, e = .returned (.slice a M c) ∧ Own w' w.heap.size 31 5 a M c (flatQ P) ∧ Below w.heap.size w w' := by
  obtain ⟨pm, wm, hi, hmi⟩ := h.lx.ix
  obtain ⟨K, hK⟩ : ∃ K, g.x.puts.length = K := ⟨_, rfl⟩
  obtain ⟨ks, hks⟩ : ∃ ks, srtI (g.x.puts.map Prod.fst) = ks := ⟨_, rfl⟩
  have hKn : K ≤ 900000 := hK ▸ hf.1
  have KP := Lib.hid (keysP_at hi.puts K hK (by omega))
  have HKO := Lib.hid (hks ▸ h.keys_ok)
  have HKL : Hid (ks.length = K) := Lib.hid (by rw [← hks, srtI_len, List.length_map, hK])
  have HPE : Hid (ks.filterMap (loadL g) = P) := Lib.hid (by rw [← hks, ← hP]; rfl)
  have HM := Lib.hid hM
  have G := Lib.hid h
  have c2 : w.cell? ⟨L, 2, none⟩ = some (.map (some pm)) := hi.box.cell 2
  rw [hks] at KP
  clear hK hks hf hP hM hi hmi h
  go_enter Tryz.func19, Tryz.ntmps19
  go_wp2_with fail
  refine KP.out.mono ?_
  rintro e w1 ⟨ka, kc, rfl, ho, hb⟩
  have ST : Hid (PenL w RD RL d L g ks w.heap.size ka K kc 0 0 0 none w1) := Lib.hid ⟨G.out.later hb, ho, rfl, Own.nil _ _ _ _, hb⟩
  have G0 := Lib.hid G.out
  clear KP ho hb c2 G
  go_wp2_with fail
  go_loopw [3, 17] (fun vl vi wr => ∃ (k m c : Nat) (a : Option Addr), vl = .slice a m c ∧ vi = .int .i64 (k : Int) ∧ k ≤ K ∧ m ≤ k ∧ Hid (PenL w RD RL d L g ks w.heap.size ka K kc k m c a wr)) (fun _ vi _ => K - (intV vi).toNat)
  case atStart => exact ⟨0, 0, 0, none, rfl, rfl, Nat.zero_le _, Nat.le_refl _, ST⟩
  case round =>
    clear ST
    obtain ⟨k, m, c, a, rfl, rfl, hk, hmk, HL⟩ := hrel
    by_cases hkK : k < K
    · have d1 : decide ((k : Int) < (K : Int)) = true := decide_eq_true (by omega)
      have d1n : decide (k < K) = true := decide_eq_true hkK
      obtain ⟨id, hid⟩ : ∃ id, ks[k]? = some id := ⟨_, List.getElem?_eq_getElem (by rw [HKL.out]; exact hkK)⟩
      have hok := HKO.out id (List.mem_of_getElem? hid)
      obtain ⟨g9, hg9, _, _⟩ := HL.out.kown.some_ (by omega)
      have HKS := Lib.hid HL.out.kown
      subst hg9
      have ck := HL.out.kown.cell (j := k) (u := .int .i64 id) (by unfold inL; rw [List.getElem?_map, hid]; rfl)
      have ik0 : (0 : Int) ≤ (k : Int) := by omega
      obtain ⟨o, ho⟩ : ∃ o, loadL g id = o := ⟨_, rfl⟩
      have TK : Hid ((ks.take (k + 1)).filterMap (loadL g) = (ks.take k).filterMap (loadL g) ++ o.toList) := Lib.hid (by
        rw [List.take_add_one, hid, List.filterMap_append]
        congr 1
        rw [← ho]
        show List.filterMap (loadL g) [id] = (loadL g id).toList
        cases h9 : loadL g id <;> simp [h9])
      have LD := Lib.hid (load_at HL.out.lg id hok)
      rw [ho] at LD
      clear hid hok ho HKS
      go_wp2_with fail
      refine LD.out.mono ?_
      rintro e w2 ⟨rfl, hb⟩
      have HL2 := Lib.hid (HL.out.later hb)
      clear LD hb ck HL
      cases o with
      | none =>
        have NEXT : Hid (PenL w RD RL d L g ks w.heap.size (some ⟨g9, 0, none⟩) K kc (k + 1) m c a (w2.alloc (.cells (reqL rc0).toArray 31))) := Lib.hid (by
          have h9 := HL2.out.later ((Below.refl w2.heap.size w2).alloc (Nat.le_refl _) (.cells (reqL rc0).toArray 31))
          have t9 : (ks.take (k + 1)).filterMap (loadL g) = (ks.take k).filterMap (loadL g) := by rw [TK.out]; simp
          exact ⟨h9.lg, h9.kown, by rw [t9]; exact h9.len, by rw [t9]; exact h9.own, h9.bel⟩)
        unfold reqL rc0 at NEXT
        dsimp only at NEXT
        clear TK HL2
        simp only [Option.getD_none, Option.isSome_none, reqL, rc0]
        go_wp2_with fail
        go_roundw
        case rel => exact ⟨k + 1, m, c, a, rfl, by go_num, by omega, by omega, NEXT⟩
        case measure => simp [intV]; omega
      | some r =>
        obtain ⟨r0, r1, r2, r3, r4, r5⟩ := r
        have W3 : Hid (Below w2.heap.size w2 (w2.alloc (.cells #[.int .i64 r1, .string r2, .string r3, .int .i64 r4, .int .i64 r5] 31))) := Lib.hid ((Below.refl w2.heap.size w2).alloc (Nat.le_refl _) _)
        have B3 : Hid (Box (w2.alloc (.cells #[.int .i64 r1, .string r2, .string r3, .int .i64 r4, .int .i64 r5] 31)) w2.heap.size #[.int .i64 r1, .string r2, .string r3, .int .i64 r4, .int .i64 r5] 31) := Lib.hid (Box.new w2 _ _)
        have HZ : Hid (flatQ ((ks.take k).filterMap (loadL g)) ++ #[.int .i64 r1, .string r2, .string r3, .int .i64 r4, .int .i64 r5].toList = flatQ ((ks.take (k + 1)).filterMap (loadL g))) := Lib.hid (by rw [TK.out]; exact (flatQ_snoc _ ⟨r0, r1, r2, r3, r4, r5⟩).symm)
        simp only [Option.getD_some, Option.isSome_some, reqL]
        go_upto_region 9 with fail
        refine code_forget (fun W => Hid (PenL w RD RL d L g ks w.heap.size (some ⟨g9, 0, none⟩) K kc k m c a W) ∧ Hid (Box W w2.heap.size #[.int .i64 r1, .string r2, .string r3, .int .i64 r4, .int .i64 r5] 31)) ⟨Lib.hid (HL2.out.later W3.out), B3⟩ ?_
        obtain ⟨qb, hqb⟩ : ∃ p, w2.heap.size = p := ⟨_, rfl⟩
        rw [hqb]
        clear W3 B3 HL2 hqb
        rintro w3 ⟨HL3, B3⟩
        have q0 := B3.out.cell 0
        have q1 := B3.out.cell 1
        have q2 := B3.out.cell 2
        have q3 := B3.out.cell 3
        have q4 := B3.out.cell 4
        have O3 := Lib.hid HL3.out.own
        have hB3 := HL3.out.bel.size
        have NEW : Hid (∀ (w5 : World) (g5 c5 : Nat), Own w5 w.heap.size 31 5 (some ⟨g5, 0, none⟩) (m + 1) c5 (flatQ ((ks.take (k + 1)).filterMap (loadL g))) → w3.grownBy w5 (a.map (·.block)) → Below w.heap.size w3 w5 → PenL w RD RL d L g ks w.heap.size (some ⟨g9, 0, none⟩) K kc (k + 1) (m + 1) c5 (some ⟨g5, 0, none⟩) w5) := Lib.hid (fun w5 g5 c5 p1 p2 p3 => by
          have hgb : ∀ {k : Nat}, a.map (·.block) = some k → a = some ⟨k, 0, none⟩ := fun hk => own_block5 HL3.out.own hk
          have hge : ∀ k, a.map (·.block) = some k → w.heap.size ≤ k := fun k hk => (own_lt HL3.out.own (own_block5 HL3.out.own hk)).2
          refine ⟨HL3.out.lg.keep p2.size fun k hk hm => p2.block k hk fun e => ?_, HL3.out.kown.blocks fun g e => p2.block g (own_lt HL3.out.kown e).1 fun e2 => ?_, by rw [TK.out, List.length_append, HL3.out.len]; rfl, p1, HL3.out.bel.trans p3⟩
          · have h8 := hge k e.symm
            rcases hm with hm | hm | hm
            · have := G0.out.dk.lt k hm; omega
            · have := G0.out.lx.lt k hm; omega
            · have := G0.out.now.lt; omega
          · exact own_apart HL3.out.kown HL3.out.own e (hgb e2.symm) (by decide))
        clear HL3
        go_wp2_with (at_builtin; refine wpList_app1 rowQ rfl _ _ rfl w.heap.size a m c _ rfl O3.out #[.int .i64 r1, .string r2, .string r3, .int .i64 r4, .int .i64 r5] rfl rfl (by simp [Value.oneCell']) (by omega) (by decide) hB3 (m + 1) rfl _ HZ.out ?_; rintro g5 c5 w5 p1 p2 p3 p4; have NX := Lib.hid (NEW.out _ _ _ p1 p2 p3); clear p1 p2 p3 p4 O3)
        go_roundw
        case rel => exact ⟨k + 1, m + 1, _, _, rfl, by go_num, by omega, by omega, NX⟩
        case measure => simp [intV]; omega
    · have d1 : decide ((k : Int) < (K : Int)) = false := decide_eq_false (by omega)
      have hkk : k = K := by omega
      subst hkk
      have FIN : Hid (m = M ∧ Own wr w.heap.size 31 5 a m c (flatQ P) ∧ Below w.heap.size w wr) := Lib.hid (by
        have t9 : (ks.take k).filterMap (loadL g) = P := by rw [List.take_of_length_le (by rw [HKL.out]; exact Nat.le_refl _), HPE.out]
        refine ⟨?_, t9 ▸ HL.out.own, HL.out.bel⟩
        rw [← HM.out, ← t9, HL.out.len])
      go_wp2_with fail
      go_ret
      obtain ⟨rfl, h1, h2⟩ := FIN.out
      exact ⟨a, c, rfl, h1, h2⟩
end Go.Proofs.YteinblpkcpjpnaaGreatDoor
/- Package spill: room: where a record goes. -/
namespace Go.Proofs.YteinblpkcpjpnaaGreatDoor
open Go Go.RowKit Go.Maps
set_option linter.unusedVariables false
set_option linter.unusedSimpArgs false
set_option maxRecDepth 100000

theorem pl_row {w : World} {g : Nat} {cs : Array Value} (h : Box w g cs 76) (hs : cs.size = 3) : (loadVar 76 ⟨g, 0, none⟩).run Tryz.prog w = .ok (.agg cs) w :=
  run_loadVar_row w g 76 76 cs (0, 0) _ h Tryz.underlying76 rfl (by rw [hs]; kernel_rfl)
set_option maxHeartbeats 4000000 in
theorem room_at {w : World} {RD RL : Nat → Prop} {d L : Nat} {g : Lg} (h : LgM w RD RL d L g) (size : Nat) (hs : size ≤ 100000) (P : Pl) (ok : Bool) (hP : roomL g.D g.n size = (P, ok)) :
    Calls Tryz.prog 28 #[.pointer (some ⟨L, 0, none⟩), .int .i64 (size : Int)] w fun e w' => e = .returned (.tuple #[plV P, .bool ok]) ∧ Below w.heap.size w w' := by
  obtain ⟨pm, wm, hi, hmi⟩ := h.lx.ix
  obtain ⟨N, hN⟩ : ∃ N, g.D.S.length = N := ⟨_, rfl⟩
  obtain ⟨n, hn⟩ : ∃ n, g.n = n := ⟨_, rfl⟩
  have hN16 : N ≤ 16 := hN ▸ h.dk.cnt
  have SG := Lib.hid (fun (W : World) (hW : Below w.heap.size w W) => ksegs_at (h.dk.later hW) N hN)
  have BL := Lib.hid hi.box
  have G := Lib.hid h
  have HP : Hid ((if n < (N : Int) then (nowh, false) else match (segsL g.D).getLast?.bind (lastP g.D size) with | some p => (p, true) | none => freshP g.D n size) = (P, ok)) := Lib.hid (by rw [← hP, ← hn, ← hN]; rfl)
  have HLN : Hid ((segsL g.D).length = N) := Lib.hid (by unfold segsL; rw [List.length_map, hN])
  have HFR : Hid (freshP g.D n size = (⟨(followL (segsL g.D)).1, 0, size⟩, (followL (segsL g.D)).2 && decide ((N : Int) < n))) := Lib.hid (by unfold freshP; rw [hN])
  rw [hn] at BL
  clear hP hN hn hi hmi h
  go_enter Tryz.func28, Tryz.ntmps28
  go_upto_region 1 with fail
  refine code_forget (fun W => Hid (Box W w.heap.size #[.int .i64 0, .int .i64 0, .int .i64 0] 76) ∧ Hid (Below w.heap.size w W)) ⟨Lib.hid (Box.new w _ _), Lib.hid ((Below.refl w.heap.size w).alloc (Nat.le_refl _) _)⟩ ?_
  obtain ⟨rb, hrb⟩ : ∃ p, w.heap.size = p := ⟨_, rfl⟩
  have HRB := Lib.hid hrb
  rw [hrb]
  rintro w1 ⟨BR1, B1⟩
  rw [← HRB.out] at B1
  clear hrb
  have BL1 := Lib.hid (BL.out.later B1.out)
  have l0 : w1.cell? ⟨L, 0, none⟩ = some (.pointer (some ⟨d, 0, none⟩)) := BL1.out.cell 0
  have SG1 := Lib.hid (SG.out w1 B1.out)
  clear SG
  go_wp2_with fail
  refine SG1.out.mono ?_
  rintro e w2 ⟨a, c, rfl, ho, hb⟩
  have O2 := Lib.hid ho
  have BL2 := Lib.hid (BL1.out.later hb)
  have BR2 := Lib.hid (BR1.out.later hb)
  have B2 := Lib.hid (B1.out.trans (hb.mono B1.out.size))
  clear ho hb l0 SG1 BL1 BR1 B1
  have l1 : w2.cell? ⟨L, 1, none⟩ = some (.int .i64 n) := BL2.out.cell 1
  by_cases hbig : n < (N : Int)
  · have d1 : decide (n < (N : Int)) = true := decide_eq_true hbig
    have d1' : decide ((N : Int) > n) = true := d1
    have NW := G.out.now.later B2.out
    have n0 : w2.cell? ⟨0, 0, none⟩ = some (.int .i64 9223372036854775807) := NW 0 (by decide)
    have n1 : w2.cell? ⟨0, 1, none⟩ = some (.int .i64 9223372036854775807) := NW 1 (by decide)
    have n2 : w2.cell? ⟨0, 2, none⟩ = some (.int .i64 0) := NW 2 (by decide)
    have FIN := Lib.hid (BR2.out.setRow #[.int .i64 9223372036854775807, .int .i64 9223372036854775807, .int .i64 0])
    have BZ := Lib.hid (below_row (g := rb) B2.out (by have := HRB.out; omega) #[.int .i64 9223372036854775807, .int .i64 9223372036854775807, .int .i64 0])
    clear NW
    go_upto_region 3 with fail
    go_wp2_with (refine wpList_storeRow rfl rfl rfl rfl BR2.out rfl (by kernel_rfl) (by simp [Value.oneCell']) ?_)
    refine bodyPost_ret (results_cell_tmp Tryz.results28 rfl (pl_row FIN.out rfl)) rfl ?_
    have h9 := HP.out
    rw [if_pos hbig] at h9
    injection h9 with e1 e2
    subst e1 e2
    exact ⟨rfl, BZ.out⟩
  · have d1 : decide (n < (N : Int)) = false := decide_eq_false hbig
    have d1' : decide ((N : Int) > n) = false := d1
    have HP2 : Hid ((match (segsL g.D).getLast?.bind (lastP g.D size) with | some p => (p, true) | none => freshP g.D n size) = (P, ok)) := Lib.hid (by have h9 := HP.out; rw [if_neg hbig] at h9; exact h9)
    clear HP
    have FO := Lib.hid (fun (W : World) (hW : Below w2.heap.size w2 W) => following_at (segsL g.D) N c a W HLN.out (by omega) (rdC_of_own (O2.out.later hW) (by decide)) (fun v hv => okI_iff (G.out.dk.segs_ok v hv).1))
    obtain ⟨F, hF⟩ : ∃ F, followL (segsL g.D) = F := ⟨_, rfl⟩
    rw [hF] at FO HFR
    have HF := Lib.hid hF
    clear hF
    go_upto_if 29 with fail
    go_cut [] (fun wc => Hid (Below w2.heap.size w2 wc) ∧ Hid ((P, ok) = ((⟨F.1, 0, size⟩, F.2 && decide ((N : Int) < n)) : Pl × Bool)))
    case first =>
      by_cases h0 : N = 0
      · subst h0
        have HE : Hid ((P, ok) = ((⟨F.1, 0, size⟩, F.2 && decide ((0 : Int) < n)) : Pl × Bool)) := Lib.hid (by
          have e1 : segsL g.D = [] := List.eq_nil_of_length_eq_zero HLN.out
          have h9 := HP2.out
          rw [e1] at h9
          rw [← h9]
          exact HFR.out)
        go_wp2_with fail
        go_meet
        exact ⟨Lib.hid (Below.refl _ _), HE⟩
      · obtain ⟨k, rfl⟩ : ∃ k, N = k + 1 := ⟨N - 1, by omega⟩
        obtain ⟨v, hkv⟩ : ∃ v, (segsL g.D)[k]? = some v := ⟨_, List.getElem?_eq_getElem (by rw [HLN.out]; omega)⟩
        obtain ⟨g9, hg9, _, _⟩ := O2.out.some_ (by omega)
        subst hg9
        have ck := O2.out.cell (j := k) (u := .int .i64 v) (by unfold inL; rw [List.getElem?_map, hkv]; rfl)
        have d0 : decide (((k + 1 : Nat) : Int) > 0) = true := decide_eq_true (by omega)
        have d0n : decide (0 < k + 1) = true := decide_eq_true (by omega)
        have dw : IntKind.i64.wrap (((k + 1 : Nat) : Int) - 1) = (k : Int) := by rw [IntKind.wrap_i64]; omega
        have i0 : (0 : Int) ≤ (k : Int) := by omega
        have i1 : (k : Int) < ((k + 1 : Nat) : Int) := by omega
        obtain ⟨hvk, hv0⟩ := G.out.dk.segs_ok v (List.mem_of_getElem? hkv)
        have HLS : Hid ((segsL g.D).getLast? = some v) := Lib.hid (by rw [List.getLast?_eq_getElem?, HLN.out]; exact hkv)
        obtain ⟨M, hM⟩ : ∃ M, (gD g.D.S v).length = M := ⟨_, rfl⟩
        have hM2 := G.out.dk.seg v
        rw [hM] at hM2
        have HM := Lib.hid hM
        have BY := Lib.hid (G.out.dk.byt v)
        have RD2 := Lib.hid (kread_at (G.out.dk.later B2.out) v hvk M hM)
        have l0 : w2.cell? ⟨L, 0, none⟩ = some (.pointer (some ⟨d, 0, none⟩)) := BL2.out.cell 0
        clear hkv hvk hM
        go_wp2_with fail
        refine RD2.out.mono ?_
        rintro e w3 ⟨a3, c3, kk, rfl, ho, hb⟩
        obtain ⟨rd3, hp3⟩ := rdB_own ho HM.out
        have SC := Lib.hid (scan_at (gD g.D.S v) M a3 c3 w3 HM.out rd3 BY.out ho.cap_le (by omega) hp3)
        have B3 := Lib.hid hb
        clear RD2 ho hb rd3 hp3 ck
        go_wp2_with fail
        refine SC.out.mono ?_
        rintro e w4 ⟨rs, u, a4, c4, rfl, hsc, _, hu, _, hb4⟩
        have HU : Hid (u = usedL (gD g.D.S v)) := Lib.hid (scan_eq BY.out hsc).2
        have B4 := Lib.hid (B3.out.trans (hb4.mono B3.out.size))
        clear SC hsc hb4 B3
        have hw9 : IntKind.i64.wrap ((u : Int) + (size : Int)) = (u : Int) + (size : Int) := by rw [IntKind.wrap_i64]; omega
        by_cases hq : u = M ∧ u + size ≤ 2048
        · obtain ⟨hq1, hq2⟩ := hq
          subst hq1
          have e1 : ((u : Int) == (u : Int)) = true := beq_self_eq_true _
          have e2 : decide ((u : Int) + (size : Int) ≤ 2048) = true := decide_eq_true (by omega)
          have BR4 := Lib.hid (BR2.out.later B4.out)
          have FIN := Lib.hid (BR4.out.setRow #[.int .i64 v, .int .i64 (u : Int), .int .i64 (size : Int)])
          have BZ := Lib.hid (below_row (g := rb) (B2.out.trans (B4.out.mono B2.out.size)) (by have := HRB.out; omega) #[.int .i64 v, .int .i64 (u : Int), .int .i64 (size : Int)])
          have HE : Hid ((P, ok) = ((⟨v, (u : Int), (size : Int)⟩, true) : Pl × Bool)) := Lib.hid (by
            have h9 := HP2.out
            rw [HLS.out] at h9
            have h8 : lastP g.D size v = some ⟨v, (u : Int), (size : Int)⟩ := by
              unfold lastP
              rw [← HU.out, HM.out, if_pos ⟨rfl, hq2⟩]
            rw [← h9, Option.bind_some, h8])
          go_upto_region 9 with fail
          go_wp2_with (refine wpList_storeRow rfl rfl rfl rfl BR4.out rfl (by kernel_rfl) (by simp [Value.oneCell']) ?_)
          refine bodyPost_ret (results_cell_tmp Tryz.results28 rfl (pl_row FIN.out rfl)) rfl ?_
          have h9 := HE.out
          injection h9 with e1 e2
          subst e1 e2
          exact ⟨rfl, BZ.out⟩
        · have HE : Hid ((P, ok) = ((⟨F.1, 0, size⟩, F.2 && decide (((k + 1 : Nat) : Int) < n)) : Pl × Bool)) := Lib.hid (by
            have h9 := HP2.out
            rw [HLS.out] at h9
            have h8 : lastP g.D size v = none := by
              unfold lastP
              rw [← HU.out, HM.out, if_neg hq]
            rw [← h9, Option.bind_some, h8]
            exact HFR.out)
          by_cases hq1 : u = M
          · subst hq1
            have e1 : ((u : Int) == (u : Int)) = true := beq_self_eq_true _
            have hq2 : ¬ u + size ≤ 2048 := fun e => hq ⟨rfl, e⟩
            have e2 : decide ((u : Int) + (size : Int) ≤ 2048) = false := decide_eq_false (by omega)
            go_wp2_with fail
            go_meet
            exact ⟨B4, HE⟩
          · have e1 : ((u : Int) == (M : Int)) = false := beq_eq_false_iff_ne.2 (by omega)
            go_wp2_with fail
            go_meet
            exact ⟨B4, HE⟩
    case rest =>
      obtain ⟨hb3, HE⟩ := hcut
      have B5 := Lib.hid (B2.out.trans (hb3.out.mono B2.out.size))
      have BR5 := Lib.hid (BR2.out.later hb3.out)
      have BL5 := Lib.hid (BL2.out.later hb3.out)
      have l1 : wc.cell? ⟨L, 1, none⟩ = some (.int .i64 n) := BL5.out.cell 1
      have FO5 := Lib.hid (FO.out wc hb3.out)
      obtain ⟨f1, f2⟩ := F
      dsimp only at FO5 HE
      clear FO hb3
      go_wp2_with fail
      refine FO5.out.mono ?_
      rintro e w6 ⟨rfl, rfl⟩
      have HLR : Hid (L ≠ rb) := Lib.hid (box_other BL2.out BR2.out (by decide))
      obtain ⟨q, hq⟩ : ∃ q, decide ((N : Int) < n) = q := ⟨_, rfl⟩
      rw [hq] at HE
      cases f2 with
      | false =>
        go_upto_region 11 with fail
        refine wp_region_last 14 (fun w' => Box w' L (logC d n pm wm g.x.top) 70 ∧ Below w.heap.size w w' ∧ ∃ cs : Array Value, Box w' rb cs 76 ∧ cs.size = 3) (by kernel_rfl) (⟨BL5.out.drew, B5.out.drew, _, BR5.out.drew, rfl⟩) (fun hHeld hClosed => ?_)
        refine wpAnyL_take (i := 0) (v := ?_) rfl (by kernel_rfl) (by kernel_rfl) (by kernel_rfl) (by kernel_rfl) (fun _ _ _ h => h) (by kernel_rfl) hClosed (Or.inl ⟨by rfl, ?_⟩) hHeld (fun hClosed => ?_)
        rotate_left
        · intro wv hSw; go_simp; all_goals (with_reducible rfl)
        (try simp only [List.getElem_toArray, List.getElem_cons_zero, put_at, List.set])
        refine wpAnyL_take (i := 1) (v := ?_) rfl (by kernel_rfl) (by kernel_rfl) (by kernel_rfl) (by kernel_rfl) (fun _ _ _ h => h) (by kernel_rfl) hClosed (Or.inl ⟨by rfl, ?_⟩) hHeld (fun hClosed => ?_)
        rotate_left
        · intro wv hSw; go_simp; all_goals (with_reducible rfl)
        (try simp only [List.getElem_toArray, List.getElem_cons_succ, List.getElem_cons_zero, put_at, List.set])
        refine wpAnyL_take (i := 2) (v := ?_) rfl (by kernel_rfl) (by kernel_rfl) (by kernel_rfl) (by kernel_rfl) (fun _ _ _ h => h) (by kernel_rfl) hClosed (Or.inl ⟨by rfl, ?_⟩) hHeld (fun hClosed => ?_)
        rotate_left
        · intro wv hSw; go_simp; all_goals (with_reducible rfl)
        (try simp only [List.getElem_toArray, List.getElem_cons_succ, List.getElem_cons_zero, put_at, List.set])
        refine wpAnyL_take (i := 3) (v := ?_) rfl (by kernel_rfl) (by kernel_rfl) (by kernel_rfl) (by kernel_rfl) (fun _ _ _ h => h) (by kernel_rfl) hClosed (Or.inl ⟨by rfl, ?_⟩) hHeld (fun hClosed => ?_)
        rotate_left
        · intro wv hSw; go_simp; all_goals (with_reducible rfl)
        (try simp only [List.getElem_toArray, List.getElem_cons_succ, List.getElem_cons_zero, put_at, List.set])
        refine wpAnyL_take (i := 4) (v := ?_) rfl (by kernel_rfl) (by kernel_rfl) (by kernel_rfl) (by kernel_rfl) (fun _ _ _ h => h) (by kernel_rfl) hClosed (Or.inl ⟨by rfl, ?_⟩) hHeld (fun hClosed => ?_)
        rotate_left
        · intro wv hSw; go_simp; all_goals (with_reducible rfl)
        (try simp only [List.getElem_toArray, List.getElem_cons_succ, List.getElem_cons_zero, put_at, List.set])
        refine wpAnyL_take (i := 5) (v := undef) rfl (by kernel_rfl) (by kernel_rfl) (by kernel_rfl) (by kernel_rfl) (fun _ _ _ h => h) (by kernel_rfl) hClosed (Or.inr ⟨by rfl, rfl⟩) hHeld (fun hClosed => ?_)
        (try simp only [List.getElem_toArray, List.getElem_cons_succ, List.getElem_cons_zero, put_at, List.set])
        refine wpAnyL_take (i := 6) (v := undef) rfl (by kernel_rfl) (by kernel_rfl) (by kernel_rfl) (by kernel_rfl) (fun _ _ _ h => h) (by kernel_rfl) hClosed (Or.inr ⟨by rfl, rfl⟩) hHeld (fun hClosed => ?_)
        (try simp only [List.getElem_toArray, List.getElem_cons_succ, List.getElem_cons_zero, put_at, List.set])
        refine wpAnyL_take (i := 7) (v := undef) rfl (by kernel_rfl) (by kernel_rfl) (by kernel_rfl) (by kernel_rfl) (fun _ _ _ h => h) (by kernel_rfl) hClosed (Or.inr ⟨by rfl, rfl⟩) hHeld (fun hClosed => ?_)
        (try simp only [List.getElem_toArray, List.getElem_cons_succ, List.getElem_cons_zero, put_at, List.set])
        refine wpAnyL_take (i := 8) (v := undef) rfl (by kernel_rfl) (by kernel_rfl) (by kernel_rfl) (by kernel_rfl) (fun _ _ _ h => h) (by kernel_rfl) hClosed (Or.inr ⟨by rfl, rfl⟩) hHeld (fun hClosed => ?_)
        (try simp only [List.getElem_toArray, List.getElem_cons_succ, List.getElem_cons_zero, put_at, List.set])
        refine wpAnyL_take (i := 9) (v := undef) rfl (by kernel_rfl) (by kernel_rfl) (by kernel_rfl) (by kernel_rfl) (fun _ _ _ h => h) (by kernel_rfl) hClosed (Or.inr ⟨by rfl, rfl⟩) hHeld (fun hClosed => ?_)
        (try simp only [List.getElem_toArray, List.getElem_cons_succ, List.getElem_cons_zero, put_at, List.set])
        refine wpAnyL_take (i := 10) (v := undef) rfl (by kernel_rfl) (by kernel_rfl) (by kernel_rfl) (by kernel_rfl) (fun _ _ _ h => h) (by kernel_rfl) hClosed (Or.inr ⟨by rfl, rfl⟩) hHeld (fun hClosed => ?_)
        (try simp only [List.getElem_toArray, List.getElem_cons_succ, List.getElem_cons_zero, put_at, List.set])
        refine wpAnyL_take (i := 11) (v := undef) rfl (by kernel_rfl) (by kernel_rfl) (by kernel_rfl) (by kernel_rfl) (fun _ _ _ h => h) (by kernel_rfl) hClosed (Or.inr ⟨by rfl, rfl⟩) hHeld (fun hClosed => ?_)
        (try simp only [List.getElem_toArray, List.getElem_cons_succ, List.getElem_cons_zero, put_at, List.set])
        refine wpAnyL_take (i := 12) (v := ?_) rfl (by kernel_rfl) (by kernel_rfl) (by kernel_rfl) (by kernel_rfl) (fun _ _ _ h => h) (by kernel_rfl) hClosed (Or.inl ⟨by rfl, ?_⟩) hHeld (fun hClosed => ?_)
        rotate_left
        · intro wv hSw; go_simp; all_goals (with_reducible rfl)
        (try simp only [List.getElem_toArray, List.getElem_cons_succ, List.getElem_cons_zero, put_at, List.set])
        refine wpAnyL_one (i := 13) rfl (by kernel_rfl) (by kernel_rfl) hClosed (fun KK hK => ?_)
        obtain ⟨z2, z4, z5, hz⟩ := hHeld
        refine step_store_row rfl rfl rfl rfl hz.1 (by rw [hz.2]; rfl) (by kernel_rfl) (by simp [Value.oneCell']) ?_
        have BZ := Lib.hid (hz.1.setRow #[.int .i64 f1, .int .i64 0, .int .i64 (size : Int)])
        refine hK.out _ _ ?_ (fun hClosed hHeld => ?_)
        · exact ⟨z2.otherRow (HLR.out) _, below_row z4 (by have := HRB.out; omega) _, _, hz.1.setRow _, rfl⟩
        clear hK KK
        (first | simp only [List.getElem_toArray, List.getElem_cons_succ, List.getElem_cons_zero, put_at, List.set] | (try simp only [put_at, List.set]))
        refine wpAnyL_last rfl (by kernel_rfl) (by kernel_rfl) (fun KK hK => ?_)
        go_simp
        refine hK.out _ _ ?_
        (try simp only [put_at, List.set])
        go_wp2_with fail
        refine bodyPost_ret (results_cell_tmp Tryz.results28 rfl (pl_row BZ.out rfl)) rfl ?_
        have h9 := HE.out
        simp only [Bool.false_and, Bool.true_and] at h9
        injection h9 with e1 e2
        subst e1 e2
        exact ⟨rfl, hHeld.2.1⟩
      | true =>
        go_upto_region 11 with fail
        refine wp_region_last 14 (fun w' => Box w' L (logC d n pm wm g.x.top) 70 ∧ Below w.heap.size w w' ∧ ∃ cs : Array Value, Box w' rb cs 76 ∧ cs.size = 3) (by kernel_rfl) (⟨BL5.out.drew, B5.out.drew, _, BR5.out.drew, rfl⟩) (fun hHeld hClosed => ?_)
        refine wpAnyL_take (i := 0) (v := ?_) rfl (by kernel_rfl) (by kernel_rfl) (by kernel_rfl) (by kernel_rfl) (fun _ _ _ h => h) (by kernel_rfl) hClosed (Or.inl ⟨by rfl, ?_⟩) hHeld (fun hClosed => ?_)
        rotate_left
        · intro wv hSw; go_simp; all_goals (with_reducible rfl)
        (try simp only [List.getElem_toArray, List.getElem_cons_zero, put_at, List.set])
        refine wpAnyL_take (i := 1) (v := ?_) rfl (by kernel_rfl) (by kernel_rfl) (by kernel_rfl) (by kernel_rfl) (fun _ _ _ h => h) (by kernel_rfl) hClosed (Or.inl ⟨by rfl, ?_⟩) hHeld (fun hClosed => ?_)
        rotate_left
        · intro wv hSw; go_simp; all_goals (with_reducible rfl)
        (try simp only [List.getElem_toArray, List.getElem_cons_succ, List.getElem_cons_zero, put_at, List.set])
        refine wpAnyL_take (i := 2) (v := ?_) rfl (by kernel_rfl) (by kernel_rfl) (by kernel_rfl) (by kernel_rfl) (fun _ _ _ h => h) (by kernel_rfl) hClosed (Or.inl ⟨by rfl, ?_⟩) hHeld (fun hClosed => ?_)
        rotate_left
        · intro wv hSw; go_simp; all_goals (with_reducible rfl)
        (try simp only [List.getElem_toArray, List.getElem_cons_succ, List.getElem_cons_zero, put_at, List.set])
        refine wpAnyL_take (i := 3) (v := ?_) rfl (by kernel_rfl) (by kernel_rfl) (by kernel_rfl) (by kernel_rfl) (fun _ _ _ h => h) (by kernel_rfl) hClosed (Or.inl ⟨by rfl, ?_⟩) hHeld (fun hClosed => ?_)
        rotate_left
        · intro wv hSw; go_simp; all_goals (with_reducible rfl)
        (try simp only [List.getElem_toArray, List.getElem_cons_succ, List.getElem_cons_zero, put_at, List.set])
        refine wpAnyL_take (i := 4) (v := ?_) rfl (by kernel_rfl) (by kernel_rfl) (by kernel_rfl) (by kernel_rfl) (fun _ _ _ h => h) (by kernel_rfl) hClosed (Or.inl ⟨by rfl, ?_⟩) hHeld (fun hClosed => ?_)
        rotate_left
        · intro wv hSw; go_simp; all_goals (with_reducible rfl)
        (try simp only [List.getElem_toArray, List.getElem_cons_succ, List.getElem_cons_zero, put_at, List.set])
        refine wpAnyL_take (i := 5) (v := ?_) rfl (by kernel_rfl) (by kernel_rfl) (by kernel_rfl) (by kernel_rfl) (fun _ _ _ h => h) (by kernel_rfl) hClosed (Or.inl ⟨by rfl, ?_⟩) hHeld (fun hClosed => ?_)
        rotate_left
        · intro wv hSw; go_simp; all_goals (with_reducible rfl)
        (try simp only [List.getElem_toArray, List.getElem_cons_succ, List.getElem_cons_zero, put_at, List.set])
        refine wpAnyL_take (i := 6) (v := ?_) rfl (by kernel_rfl) (by kernel_rfl) (by kernel_rfl) (by kernel_rfl) (fun _ _ _ h => h) (by kernel_rfl) hClosed (Or.inl ⟨by rfl, ?_⟩) hHeld (fun hClosed => ?_)
        rotate_left
        · intro wv hSw; go_simp; all_goals (with_reducible rfl)
        (try simp only [List.getElem_toArray, List.getElem_cons_succ, List.getElem_cons_zero, put_at, List.set])
        refine wpAnyL_take (i := 7) (v := ?_) rfl (by kernel_rfl) (by kernel_rfl) (by kernel_rfl) (by kernel_rfl) (fun _ _ _ h => h) (by kernel_rfl) hClosed (Or.inl ⟨by rfl, ?_⟩) hHeld (fun hClosed => ?_)
        rotate_left
        · intro wv hSw; go_simp; all_goals (with_reducible rfl)
        (try simp only [List.getElem_toArray, List.getElem_cons_succ, List.getElem_cons_zero, put_at, List.set])
        refine wpAnyL_take (i := 8) (v := ?_) rfl (by kernel_rfl) (by kernel_rfl) (by kernel_rfl) (by kernel_rfl) (fun _ _ _ h => h) (by kernel_rfl) hClosed (Or.inl ⟨by rfl, ?_⟩) hHeld (fun hClosed => ?_)
        rotate_left
        · intro wv hSw; go_simp; all_goals (with_reducible rfl)
        (try simp only [List.getElem_toArray, List.getElem_cons_succ, List.getElem_cons_zero, put_at, List.set])
        refine wpAnyL_take (i := 9) (v := ?_) rfl (by kernel_rfl) (by kernel_rfl) (by kernel_rfl) (by kernel_rfl) (fun _ _ _ h => h) (by kernel_rfl) hClosed (Or.inl ⟨by rfl, ?_⟩) hHeld (fun hClosed => ?_)
        rotate_left
        · intro wv hSw; go_simp; all_goals (with_reducible rfl)
        (try simp only [List.getElem_toArray, List.getElem_cons_succ, List.getElem_cons_zero, put_at, List.set])
        refine wpAnyL_take (i := 10) (v := ?_) rfl (by kernel_rfl) (by kernel_rfl) (by kernel_rfl) (by kernel_rfl) (fun _ _ _ h => h) (by kernel_rfl) hClosed (Or.inl ⟨by rfl, ?_⟩) hHeld (fun hClosed => ?_)
        rotate_left
        · intro wv hSw; have l1 : wv.cell? ⟨L, 1, none⟩ = some (.int .i64 n) := hSw.1.cell 1; go_simp; all_goals (with_reducible rfl)
        (try simp only [List.getElem_toArray, List.getElem_cons_succ, List.getElem_cons_zero, put_at, List.set])
        refine wpAnyL_take (i := 11) (v := ?_) rfl (by kernel_rfl) (by kernel_rfl) (by kernel_rfl) (by kernel_rfl) (fun _ _ _ h => h) (by kernel_rfl) hClosed (Or.inl ⟨by rfl, ?_⟩) hHeld (fun hClosed => ?_)
        rotate_left
        · intro wv hSw; go_simp; all_goals (with_reducible rfl)
        (try simp only [List.getElem_toArray, List.getElem_cons_succ, List.getElem_cons_zero, put_at, List.set])
        refine wpAnyL_take (i := 12) (v := ?_) rfl (by kernel_rfl) (by kernel_rfl) (by kernel_rfl) (by kernel_rfl) (fun _ _ _ h => h) (by kernel_rfl) hClosed (Or.inl ⟨by rfl, ?_⟩) hHeld (fun hClosed => ?_)
        rotate_left
        · intro wv hSw; go_simp; all_goals (with_reducible rfl)
        (try simp only [List.getElem_toArray, List.getElem_cons_succ, List.getElem_cons_zero, put_at, List.set])
        refine wpAnyL_one (i := 13) rfl (by kernel_rfl) (by kernel_rfl) hClosed (fun KK hK => ?_)
        obtain ⟨z2, z4, z5, hz⟩ := hHeld
        refine step_store_row rfl rfl rfl rfl hz.1 (by rw [hz.2]; rfl) (by kernel_rfl) (by simp [Value.oneCell']) ?_
        have BZ := Lib.hid (hz.1.setRow #[.int .i64 f1, .int .i64 0, .int .i64 (size : Int)])
        refine hK.out _ _ ?_ (fun hClosed hHeld => ?_)
        · exact ⟨z2.otherRow (HLR.out) _, below_row z4 (by have := HRB.out; omega) _, _, hz.1.setRow _, rfl⟩
        clear hK KK
        (first | simp only [List.getElem_toArray, List.getElem_cons_succ, List.getElem_cons_zero, put_at, List.set] | (try simp only [put_at, List.set]))
        refine wpAnyL_last rfl (by kernel_rfl) (by kernel_rfl) (fun KK hK => ?_)
        go_simp
        refine hK.out _ _ ?_
        (try simp only [put_at, List.set])
        go_wp2_with fail
        refine bodyPost_ret (results_cell_tmp Tryz.results28 rfl (pl_row BZ.out rfl)) rfl ?_
        have h9 := HE.out
        simp only [Bool.false_and, Bool.true_and] at h9
        injection h9 with e1 e2
        subst e1 e2
        exact ⟨rfl, hHeld.2.1⟩
end Go.Proofs.YteinblpkcpjpnaaGreatDoor
/- Package spill: write of a log. Written by gen_write.py. -/
namespace Go.Proofs.YteinblpkcpjpnaaGreatDoor
open Go Go.RowKit Go.Maps
set_option linter.unusedVariables false
set_option linter.unusedSimpArgs false
set_option maxRecDepth 100000

theorem LgM.disk_cell {w : World} {RD RL : Nat → Prop} {d L : Nat} {g : Lg} (h : LgM w RD RL d L g) : w.cell? ⟨L, 0, none⟩ = some (.pointer (some ⟨d, 0, none⟩)) := by
  obtain ⟨pm, wm, hi, hmi⟩ := h.lx.ix
  exact hi.box.cell 0
theorem LgM.log_lt {w : World} {RD RL : Nat → Prop} {d L : Nat} {g : Lg} (h : LgM w RD RL d L g) : L < w.heap.size := by
  obtain ⟨pm, wm, hi, hmi⟩ := h.lx.ix
  exact hi.box.lt
set_option maxHeartbeats 2000000 in
theorem write_at {w : World} {RD RL : Nat → Prop} {d L : Nat} {g : Lg} (h : LgM w RD RL d L g) (p : Pl) (h0 : 0 ≤ p.seg) (h1 : okI p.seg) (b : List Int) (hb : Byts b) (hb0 : 0 < b.length) (m : Nat) (hm : b.length = m) (hm2 : m ≤ 100000) (ab : Option Addr) (cb : Nat) (hr : RdC w ab (u8L b)) (hnm : ∀ g off, ab = some ⟨g, off, none⟩ → ¬ RD g) :
    Calls Tryz.prog 29 #[.pointer (some ⟨L, 0, none⟩), plV p, .slice ab m cb] w fun e w' => e = .returned (.int .i64 (writeD g.D p.seg b).2) ∧ AftL RD RL d L w ⟨(writeD g.D p.seg b).1, g.n, g.x⟩ w' := by
  obtain ⟨E, hE⟩ : ∃ E, writeD g.D p.seg b = E := ⟨_, rfl⟩
  rw [hE]
  obtain ⟨A, hA⟩ : ∃ A, appD g.D p.seg b = A := ⟨_, rfl⟩
  have HE : Hid (E = if A.2 = 0 then syncD A.1 else A) := Lib.hid (by rw [← hE, ← hA]; rfl)
  have APP := Lib.hid (fun (W : World) (hW : Below w.heap.size w W) => kapp_at (h.dk.later hW) p.seg h0 h1 b hb hb0 m hm hm2 ab cb (hr.later hW) hnm)
  rw [hA] at APP
  have G := Lib.hid h
  obtain ⟨p1, p2, p3⟩ := p
  unfold plV plC
  dsimp only at APP ⊢
  clear hE hA h h0 h1 hb hb0 hm hr hnm
  go_enter Tryz.func29, Tryz.ntmps29
  go_upto_region 1 with fail
  refine code_forget (fun W => Hid (Box W w.heap.size #[.int .i64 p1, .int .i64 p2, .int .i64 p3] 76) ∧ Hid (Below w.heap.size w W)) ⟨Lib.hid (Box.new w _ _), Lib.hid ((Below.refl w.heap.size w).alloc (Nat.le_refl _) _)⟩ ?_
  obtain ⟨pb, hpb⟩ : ∃ p, w.heap.size = p := ⟨_, rfl⟩
  have HPB := Lib.hid hpb
  rw [hpb]
  rintro w1 ⟨BP, B2⟩
  rw [← HPB.out] at B2
  clear hpb
  have HNP : Hid (¬ (RD pb ∨ RL pb)) := Lib.hid (by
    have := HPB.out
    rintro (e | e)
    · have := G.out.dk.lt _ e; omega
    · have := G.out.lx.lt _ e; omega)
  have L0 : w1.drew.cell? ⟨L, 0, none⟩ = some (.pointer (some ⟨d, 0, none⟩)) := (G.out.later B2.out).drew.disk_cell
  obtain ⟨A1, A2⟩ := A
  dsimp only at APP HE
  have APP2 : Hid (∀ W, Below w.heap.size w W → Calls Tryz.prog 46 #[.pointer (some ⟨d, 0, none⟩), .int .i64 p1, .slice ab m cb] W fun e w' => e = .returned (.int .i64 A2) ∧ AftL RD RL d L W ⟨A1, g.n, g.x⟩ w') := Lib.hid (fun W hW => (APP.out W hW).mono (by
    rintro e w' ⟨rfl, ha⟩
    exact ⟨rfl, (G.out.later hW).disk ha⟩))
  clear APP
  have APP := APP2
  clear APP2
  refine wp_region_last 8 (fun w' => w'.cell? ⟨L, 0, none⟩ = some (.pointer (some ⟨d, 0, none⟩)) ∧ Box w' pb #[.int .i64 p1, .int .i64 p2, .int .i64 p3] 76) (by kernel_rfl) (⟨L0, BP.out.drew⟩) (fun hHeld hClosed => ?_)
  refine wpAnyL_take (i := 0) (v := ?_) rfl (by kernel_rfl) (by kernel_rfl) (by kernel_rfl) (by kernel_rfl) (fun _ _ _ h => h) (by kernel_rfl) hClosed (Or.inl ⟨by rfl, ?_⟩) hHeld (fun hClosed => ?_)
  rotate_left
  · intro wv hSw; go_simp; all_goals (with_reducible rfl)
  (try simp only [List.getElem_toArray, List.getElem_cons_zero, put_at, List.set])
  refine wpAnyL_take (i := 1) (v := ?_) rfl (by kernel_rfl) (by kernel_rfl) (by kernel_rfl) (by kernel_rfl) (fun _ _ _ h => h) (by kernel_rfl) hClosed (Or.inl ⟨by rfl, ?_⟩) hHeld (fun hClosed => ?_)
  rotate_left
  · intro wv hSw; go_simp; all_goals (with_reducible rfl)
  (try simp only [List.getElem_toArray, List.getElem_cons_succ, List.getElem_cons_zero, put_at, List.set])
  refine wpAnyL_take (i := 2) (v := ?_) rfl (by kernel_rfl) (by kernel_rfl) (by kernel_rfl) (by kernel_rfl) (fun _ _ _ h => h) (by kernel_rfl) hClosed (Or.inl ⟨by rfl, ?_⟩) hHeld (fun hClosed => ?_)
  rotate_left
  · intro wv hSw; go_simp; all_goals (with_reducible rfl)
  (try simp only [List.getElem_toArray, List.getElem_cons_succ, List.getElem_cons_zero, put_at, List.set])
  refine wpAnyL_take (i := 3) (v := ?_) rfl (by kernel_rfl) (by kernel_rfl) (by kernel_rfl) (by kernel_rfl) (fun _ _ _ h => h) (by kernel_rfl) hClosed (Or.inl ⟨by rfl, ?_⟩) hHeld (fun hClosed => ?_)
  rotate_left
  · intro wv hSw; have l0 := hSw.1; have q0 := hSw.2.cell 0; go_simp; all_goals (with_reducible rfl)
  (try simp only [List.getElem_toArray, List.getElem_cons_succ, List.getElem_cons_zero, put_at, List.set])
  refine wpAnyL_take (i := 4) (v := ?_) rfl (by kernel_rfl) (by kernel_rfl) (by kernel_rfl) (by kernel_rfl) (fun _ _ _ h => h) (by kernel_rfl) hClosed (Or.inl ⟨by rfl, ?_⟩) hHeld (fun hClosed => ?_)
  rotate_left
  · intro wv hSw; go_simp; all_goals (with_reducible rfl)
  (try simp only [List.getElem_toArray, List.getElem_cons_succ, List.getElem_cons_zero, put_at, List.set])
  refine wpAnyL_take (i := 5) (v := ?_) rfl (by kernel_rfl) (by kernel_rfl) (by kernel_rfl) (by kernel_rfl) (fun _ _ _ h => h) (by kernel_rfl) hClosed (Or.inl ⟨by rfl, ?_⟩) hHeld (fun hClosed => ?_)
  rotate_left
  · intro wv hSw; have l0 := hSw.1; have q0 := hSw.2.cell 0; go_simp; all_goals (with_reducible rfl)
  (try simp only [List.getElem_toArray, List.getElem_cons_succ, List.getElem_cons_zero, put_at, List.set])
  refine wpAnyL_take (i := 6) (v := ?_) rfl (by kernel_rfl) (by kernel_rfl) (by kernel_rfl) (by kernel_rfl) (fun _ _ _ h => h) (by kernel_rfl) hClosed (Or.inl ⟨by rfl, ?_⟩) hHeld (fun hClosed => ?_)
  rotate_left
  · intro wv hSw; go_simp; all_goals (with_reducible rfl)
  (try simp only [List.getElem_toArray, List.getElem_cons_succ, List.getElem_cons_zero, put_at, List.set])
  refine wpAnyL_one (i := 7) rfl (by kernel_rfl) (by kernel_rfl) hClosed (fun KK hK => ?_)
  go_simp
  refine (APP.out _ B2.out.drew).mono ?_
  rintro e wx ⟨rfl, hal⟩
  have A3 := Lib.hid hal
  go_wp2_with fail
  refine hK.out _ _ ?_ (fun hClosed hHeld => ?_)
  · (obtain ⟨RD', RL', k⟩ := hal; exact ⟨k.lg.disk_cell, hHeld.2.only k.only HNP.out⟩)
  clear hK KK
  (first | simp only [List.getElem_toArray, List.getElem_cons_succ, List.getElem_cons_zero, put_at, List.set] | (try simp only [put_at, List.set]))
  refine wpAnyL_last rfl (by kernel_rfl) (by kernel_rfl) (fun KK hK => ?_)
  go_simp
  refine hK.out _ _ ?_
  (try simp only [put_at, List.set])
  by_cases hz : A2 = 0
  · have dz : (A2 != 0) = false := by simp [hz]
    obtain ⟨RD', RL', k⟩ := A3.out
    have SY := Lib.hid (ksync_at k.lg.dk)
    have l0 := k.lg.disk_cell
    have FI := Lib.hid (fun w9 (ha : AftK RD' d wx (syncD A1).1 w9) => AftL.before B2.out.drew (AftL.trans k (k.lg.disk ha)))
    have HE2 : Hid (E = syncD A1) := Lib.hid (by rw [HE.out, if_pos hz])
    clear k A3 APP hHeld hClosed hz HE
    go_wp2_with fail
    refine SY.out.mono ?_
    rintro e w9 ⟨rfl, ha⟩
    have FI9 := Lib.hid (FI.out _ ha)
    clear ha FI SY l0
    go_wp2_with fail
    go_ret
    exact ⟨by rw [HE2.out]; rfl, by rw [HE2.out]; exact FI9.out⟩
  · have dz : (A2 != 0) = true := by simp [hz]
    have HE2 : Hid (E = (A1, A2)) := Lib.hid (by rw [HE.out, if_neg hz])
    clear APP hHeld hClosed hz HE
    go_wp2_with fail
    go_ret
    exact ⟨by rw [HE2.out]; rfl, by rw [HE2.out]; exact AftL.before B2.out.drew A3.out⟩
end Go.Proofs.YteinblpkcpjpnaaGreatDoor
/- Package spill: drop. -/
namespace Go.Proofs.YteinblpkcpjpnaaGreatDoor
open Go Go.RowKit Go.Maps
set_option linter.unusedVariables false
set_option linter.unusedSimpArgs false
set_option maxRecDepth 100000

theorem AftK.trans {w w1 w2 : World} {R R1 : Nat → Prop} {d : Nat} {D2 : Ds} (h : TurnR R w R1 w1) (k : AftK R1 d w1 D2 w2) : AftK R d w D2 w2 := by
  obtain ⟨R2, k1, k2⟩ := k
  exact ⟨R2, k1, h.trans k2⟩
structure DrpL (w : World) (R : Nat → Prop) (d : Nat) (F : Ds × Int) (l : List Int) (k : Nat) (Rk : Nat → Prop) (Dk : Ds) (wr : World) : Prop where
  dk : DkM wr Rk d Dk
  turn : TurnR R w Rk wr
  eq : dropsD Dk (l.drop k) = F
set_option maxHeartbeats 2000000 in
theorem drops_at {w : World} {R : Nat → Prop} {d : Nat} {D : Ds} (h : DkM w R d D) (l : List Int) (N c : Nat) (a : Option Addr) (hl : l.length = N) (hN : N ≤ 100000) (hr : RdC w a (inL l)) (hw : ∀ s ∈ l, okI s) (hnm : ∀ g off, a = some ⟨g, off, none⟩ → ¬ R g) :
    Calls Tryz.prog 34 #[.pointer (some ⟨d, 0, none⟩), .slice a N c] w fun e w' => e = .returned (.int .i64 (dropsD D l).2) ∧ AftK R d w (dropsD D l).1 w' := by
  obtain ⟨F, hF⟩ : ∃ F, dropsD D l = F := ⟨_, rfl⟩
  rw [hF]
  have HL := Lib.hid hl
  have HR := Lib.hid hr
  have HW := Lib.hid hw
  have HNM := Lib.hid hnm
  have ST : Hid (DrpL w R d F l 0 R D w) := Lib.hid ⟨h, TurnR.later (Below.refl _ _), hF⟩
  clear h hl hr hw hnm hF
  go_enter Tryz.func34, Tryz.ntmps34
  go_wp2_with fail
  go_loopw [10] (fun vi wr => ∃ (k : Nat) (Rk : Nat → Prop) (Dk : Ds), vi = .int .i64 (k : Int) ∧ k ≤ N ∧ Hid (DrpL w R d F l k Rk Dk wr)) (fun vi _ => N - (intV vi).toNat)
  case atStart => exact ⟨0, R, D, rfl, Nat.zero_le _, ST⟩
  case round =>
    clear ST
    obtain ⟨k, Rk, Dk, rfl, hk, HD⟩ := hrel
    by_cases hkN : k < N
    · have d1 : decide ((k : Int) < (N : Int)) = true := decide_eq_true (by omega)
      have d1n : decide (k < N) = true := decide_eq_true hkN
      obtain ⟨s, hs⟩ : ∃ s, l[k]? = some s := ⟨_, List.getElem?_eq_getElem (by rw [HL.out]; exact hkN)⟩
      have hok := HW.out s (List.mem_of_getElem? hs)
      obtain ⟨b9, o9, ha9, hc9⟩ := HR.out k (.int .i64 s) (by unfold inL; rw [List.getElem?_map, hs]; rfl)
      subst ha9
      have hlt := World.block_lt_of_cell? _ _ hc9
      have cs1 := (cell_blk (HD.out.turn.only.block _ hlt (HNM.out _ _ rfl)) (o9 + k)).trans hc9
      have ik0 : (0 : Int) ≤ (k : Int) := by omega
      have DR := Lib.hid (kdrop_at HD.out.dk s hok)
      have HEQ : Hid (F = if (dropD Dk s).2 = 0 then dropsD (dropD Dk s).1 (l.drop (k + 1)) else dropD Dk s) := Lib.hid (by
        rw [← HD.out.eq]
        obtain ⟨hlt9, hge⟩ := List.getElem?_eq_some_iff.1 hs
        rw [List.drop_eq_getElem_cons hlt9, hge]
        rfl)
      have TU := Lib.hid HD.out.turn
      obtain ⟨X, hX⟩ : ∃ X, dropD Dk s = X := ⟨_, rfl⟩
      rw [hX] at DR HEQ
      obtain ⟨D2, e2⟩ := X
      dsimp only at DR HEQ
      clear hs hok hc9 hlt hX
      go_wp2_with fail
      refine DR.out.mono ?_
      rintro e w2 ⟨rfl, ha⟩
      have HA := Lib.hid ha
      clear ha DR cs1
      by_cases hz : e2 = 0
      · have dz : (e2 != 0) = false := by simp [hz]
        obtain ⟨R2, hd2, ht2⟩ := HA.out
        have NEXT : Hid (DrpL w R d F l (k + 1) R2 D2 w2) := Lib.hid ⟨hd2, TU.out.trans ht2, by rw [HEQ.out, if_pos hz]⟩
        clear hd2 ht2 hz HEQ TU HD HA
        go_wp2_with fail
        go_roundw
        case rel => exact ⟨k + 1, R2, D2, by go_num, by omega, NEXT⟩
        case measure => simp [intV]; omega
      · have dz : (e2 != 0) = true := by simp [hz]
        have FIN : Hid (F = (D2, e2) ∧ AftK R d w D2 w2) := Lib.hid ⟨by rw [HEQ.out, if_neg hz], AftK.trans TU.out HA.out⟩
        clear hz HEQ TU HD HA
        go_wp2_with fail
        go_ret
        obtain ⟨rfl, h9⟩ := FIN.out
        exact ⟨rfl, h9⟩
    · have d1 : decide ((k : Int) < (N : Int)) = false := decide_eq_false (by omega)
      have hkk : k = N := by omega
      subst hkk
      have FIN : Hid (F = (Dk, 0) ∧ AftK R d w Dk wr) := Lib.hid ⟨by
        rw [← HD.out.eq, List.drop_of_length_le (by rw [HL.out]; exact Nat.le_refl _)]
        rfl, ⟨Rk, HD.out.dk, HD.out.turn⟩⟩
      clear HD
      go_wp2_with fail
      go_ret
      obtain ⟨rfl, h9⟩ := FIN.out
      exact ⟨rfl, h9⟩
end Go.Proofs.YteinblpkcpjpnaaGreatDoor
/- Sorting records: elements, and an exchange of two ranges. Written by gen_swr.py. -/
namespace Go.Proofs.YteinblpkcpjpnaaGreatDoor
open Go Go.RowKit Go.Sort
set_option linter.unusedVariables false
set_option linter.unusedSimpArgs false
set_option maxRecDepth 100000

/-- A record in memory: its place, and where its bytes lie. -/
structure En where
  p : Pl
  a : Option Addr
  n : Nat
  c : Nat
  b : List Int
instance : Inhabited En := ⟨⟨pl0, none, 0, 0, []⟩⟩
def enE (e : En) : List Value := [.int .i64 e.p.seg, .int .i64 e.p.off, .int .i64 e.p.size, .slice e.a e.n e.c]
theorem enE_len (e : En) : (enE e).length = 4 := rfl
theorem enE_one (e : En) : ∀ v ∈ enE e, v.oneCell' = true := by
  intro v hv
  simp [enE] at hv
  rcases hv with rfl | rfl | rfl | rfl <;> rfl
def EnM (w : World) (B g n c : Nat) (d : Array En) : Prop := Own w B 125 4 (some ⟨g, 0, none⟩) n c (flE enE d.toList)
/-- Only the row has turned. -/
structure SrW (w0 : World) (B g n c : Nat) (d : Array En) (w : World) : Prop where
  own : EnM w B g n c d
  only : Only (fun k => k = g) w0 w
  len : d.size = n
theorem SrW.later {w0 w w' : World} {B g n c : Nat} {d : Array En} (h : SrW w0 B g n c d w) (hb : Below w.heap.size w w') : SrW w0 B g n c d w' := ⟨h.own.later hb, h.only.later hb, h.len⟩
theorem only_grown {w0 w w' : World} {g : Nat} (h : Only (fun k => k = g) w0 w) (hg : w.grownBy w' (some g)) : Only (fun k => k = g) w0 w' :=
  h.trans (Only.of_grown (R := fun k => k = g) hg (fun k e => (Option.some.inj e).symm)) (fun x hx => Or.inl hx)
theorem SrW.drew {w0 w : World} {B g n c : Nat} {d : Array En} (h : SrW w0 B g n c d w) : SrW w0 B g n c d w.drew := h.later (Below.refl _ w).drew
/-- Two elements have been exchanged. -/
theorem SrW.swp {w0 w w' : World} {B g n c i j : Nat} {d : Array En} (h : SrW w0 B g n c d w) (hi : i < n) (hj : j < n) {x y : En} (hx : d.toList[i]? = some x) (hy : d.toList[j]? = some y)
    (ho : Own w' B 125 4 (some ⟨g, 0, none⟩) n c (flE enE ((d.toList.set i y).set j x))) (h1 : Only (fun k => k = g) w0 w') : SrW w0 B g n c (swp d i j) w' :=
  ⟨by unfold EnM; rw [swp_list d (by rw [h.len]; exact hi) (by rw [h.len]; exact hj) hx hy]; exact ho, h1, by rw [size_swp]; exact h.len⟩
theorem get_some (d : Array En) {i : Nat} (h : i < d.size) : d.toList[i]? = some d[i]! := by
  rw [getElem!_pos d i h]
  simp [h]
set_option maxHeartbeats 2000000 in
theorem swapRange_at (x y m : Nat) {w0 w : World} {B g n c : Nat} {d : Array En} (h : SrW w0 B g n c d w) (hx : x + m ≤ n) (hy : y + m ≤ n) (hn : n ≤ 100000000) (fv : Value) :
    Calls Tryz.prog 115 #[.slice (some ⟨g, 0, none⟩) n c, .int .i64 (x : Int), .int .i64 (y : Int), .int .i64 (m : Int), fv] w fun e w' => e = .returned (.tuple #[]) ∧ SrW w0 B g n c (swr x y m d 0) w' := by
  obtain ⟨F, hF⟩ : ∃ F, swr x y m d 0 = F := ⟨_, rfl⟩
  rw [hF]
  have mixed : Tryz.prog.follows .mixedOrders = true := by kernel_rfl
  have ST : Hid (SrW w0 B g n c d w ∧ swr x y m d 0 = F) := Lib.hid ⟨h, hF⟩
  clear h hF
  go_enter Tryz.func115, Tryz.ntmps115
  go_wp2_with fail
  go_loopw [10] (fun vi wr => ∃ (i : Nat) (d : Array En), vi = .int .i64 (i : Int) ∧ i ≤ m ∧ Hid (SrW w0 B g n c d wr ∧ swr x y m d i = F)) (fun vi _ => m - (intV vi).toNat)
  case atStart => exact ⟨0, d, rfl, Nat.zero_le _, ST⟩
  case round =>
    clear ST d
    obtain ⟨i, d, rfl, hi, HS⟩ := hrel
    by_cases him : i < m
    · have d1 : decide ((i : Int) < (m : Int)) = true := decide_eq_true (by omega)
      have d1n : decide (i < m) = true := decide_eq_true him
      have hxi : x + i < n := by omega
      have hyi : y + i < n := by omega
      obtain ⟨X, hX⟩ : ∃ e, d[x + i]! = e := ⟨_, rfl⟩
      obtain ⟨Y, hY⟩ : ∃ e, d[y + i]! = e := ⟨_, rfl⟩
      have HX : Hid (d.toList[x + i]? = some X) := Lib.hid (by rw [← hX]; exact get_some d (by rw [HS.out.1.len]; exact hxi))
      have HY : Hid (d.toList[y + i]? = some Y) := Lib.hid (by rw [← hY]; exact get_some d (by rw [HS.out.1.len]; exact hyi))
      have HDL : Hid (d.toList.length = n) := Lib.hid (by rw [Array.length_toList]; exact HS.out.1.len)
      have O0 := Lib.hid HS.out.1.own
      have w1x : IntKind.i64.wrap ((x : Int) + (i : Int)) = ((x + i : Nat) : Int) := by rw [IntKind.wrap_i64]; omega
      have w1y : IntKind.i64.wrap ((y : Int) + (i : Int)) = ((y + i : Nat) : Int) := by rw [IntKind.wrap_i64]; omega
      have nx : (0 : Int) ≤ ((x + i : Nat) : Int) := by omega
      have nx2 : ((x + i : Nat) : Int) < (n : Int) := by omega
      have ny : (0 : Int) ≤ ((y + i : Nat) : Int) := by omega
      have ny2 : ((y + i : Nat) : Int) < (n : Int) := by omega
      obtain ⟨xi, hxi'⟩ : ∃ k, x + i = k := ⟨_, rfl⟩
      obtain ⟨yi, hyi'⟩ : ∃ k, y + i = k := ⟨_, rfl⟩
      rw [hxi'] at HX w1x nx nx2 hxi
      rw [hyi'] at HY w1y ny ny2 hyi
      have NEXT : Hid (∀ w', Own w' B 125 4 (some ⟨g, 0, none⟩) n c (flE enE ((d.toList.set xi Y).set yi X)) → Only (fun k => k = g) w0 w' → SrW w0 B g n c (swp d xi yi) w' ∧ swr x y m (swp d xi yi) (i + 1) = F) := Lib.hid (fun w' k1 k2 => ⟨HS.out.1.swp hxi hyi HX.out HY.out k1 k2, by rw [← HS.out.2, swr_go him, hxi', hyi']⟩)
      have ON := Lib.hid HS.out.1.only
      clear hX hY hxi' hyi'
      go_upto_region 3 with fail
      refine wp_region_lastM [21, 22, 23] (fun w' => Own w' B 125 4 (some ⟨g, 0, none⟩) n c (flE enE d.toList)) (by kernel_rfl) (O0.out.drew) (fun hHeld hClosed => ?_)
      refine wpAnyM_takeP (i := 0) (v := ?_) rfl (by kernel_rfl) (by kernel_rfl) (by kernel_rfl) (fun _ _ _ h => h) (by kernel_rfl) hClosed (Or.inl ⟨by rfl, ?_⟩) (fun _ => hHeld) (fun hClosed => ?_)
      rotate_left
      · intro wv hSw; go_simp; all_goals (with_reducible rfl)
      (try simp only [List.getElem_toArray, List.getElem_cons_zero, put_at, List.set])
      refine wpAnyM_takeP (i := 1) (v := ?_) rfl (by kernel_rfl) (by kernel_rfl) (by kernel_rfl) (fun _ _ _ h => h) (by kernel_rfl) hClosed (Or.inl ⟨by rfl, ?_⟩) (fun _ => hHeld) (fun hClosed => ?_)
      rotate_left
      · intro wv hSw; go_simp; all_goals (with_reducible rfl)
      (try simp only [List.getElem_toArray, List.getElem_cons_succ, List.getElem_cons_zero, put_at, List.set])
      refine wpAnyM_takeP (i := 2) (v := ?_) rfl (by kernel_rfl) (by kernel_rfl) (by kernel_rfl) (fun _ _ _ h => h) (by kernel_rfl) hClosed (Or.inl ⟨by rfl, ?_⟩) (fun _ => hHeld) (fun hClosed => ?_)
      rotate_left
      · intro wv hSw; go_simp; all_goals (with_reducible rfl)
      (try simp only [List.getElem_toArray, List.getElem_cons_succ, List.getElem_cons_zero, put_at, List.set])
      refine wpAnyM_takeP (i := 3) (v := ?_) rfl (by kernel_rfl) (by kernel_rfl) (by kernel_rfl) (fun _ _ _ h => h) (by kernel_rfl) hClosed (Or.inl ⟨by rfl, ?_⟩) (fun _ => hHeld) (fun hClosed => ?_)
      rotate_left
      · intro wv hSw; go_simp; all_goals (with_reducible rfl)
      (try simp only [List.getElem_toArray, List.getElem_cons_succ, List.getElem_cons_zero, put_at, List.set])
      refine wpAnyM_takeP (i := 4) (v := ?_) rfl (by kernel_rfl) (by kernel_rfl) (by kernel_rfl) (fun _ _ _ h => h) (by kernel_rfl) hClosed (Or.inl ⟨by rfl, ?_⟩) (fun _ => hHeld) (fun hClosed => ?_)
      rotate_left
      · intro wv hSw; go_simp; all_goals (with_reducible rfl)
      (try simp only [List.getElem_toArray, List.getElem_cons_succ, List.getElem_cons_zero, put_at, List.set])
      refine wpAnyM_takeP (i := 5) (v := ?_) rfl (by kernel_rfl) (by kernel_rfl) (by kernel_rfl) (fun _ _ _ h => h) (by kernel_rfl) hClosed (Or.inl ⟨by rfl, ?_⟩) (fun _ => hHeld) (fun hClosed => ?_)
      rotate_left
      · intro wv hSw; go_simp; all_goals (with_reducible rfl)
      (try simp only [List.getElem_toArray, List.getElem_cons_succ, List.getElem_cons_zero, put_at, List.set])
      refine wpAnyM_takeP (i := 6) (v := ?_) rfl (by kernel_rfl) (by kernel_rfl) (by kernel_rfl) (fun _ _ _ h => h) (by kernel_rfl) hClosed (Or.inl ⟨by rfl, ?_⟩) (fun _ => hHeld) (fun hClosed => ?_)
      rotate_left
      · intro wv hSw; go_simp; all_goals (with_reducible rfl)
      (try simp only [List.getElem_toArray, List.getElem_cons_succ, List.getElem_cons_zero, put_at, List.set])
      refine wpAnyM_takeP (i := 7) (v := ?_) rfl (by kernel_rfl) (by kernel_rfl) (by kernel_rfl) (fun _ _ _ h => h) (by kernel_rfl) hClosed (Or.inl ⟨by rfl, ?_⟩) (fun _ => hHeld) (fun hClosed => ?_)
      rotate_left
      · intro wv hSw; go_simp; all_goals (with_reducible rfl)
      (try simp only [List.getElem_toArray, List.getElem_cons_succ, List.getElem_cons_zero, put_at, List.set])
      refine wpAnyM_takeP (i := 8) (v := ?_) rfl (by kernel_rfl) (by kernel_rfl) (by kernel_rfl) (fun _ _ _ h => h) (by kernel_rfl) hClosed (Or.inl ⟨by rfl, ?_⟩) (fun _ => hHeld) (fun hClosed => ?_)
      rotate_left
      · intro wv hSw; go_simp; all_goals (with_reducible rfl)
      (try simp only [List.getElem_toArray, List.getElem_cons_succ, List.getElem_cons_zero, put_at, List.set])
      refine wpAnyM_takeP (i := 9) (v := ?_) rfl (by kernel_rfl) (by kernel_rfl) (by kernel_rfl) (fun _ _ _ h => h) (by kernel_rfl) hClosed (Or.inl ⟨by rfl, ?_⟩) (fun _ => hHeld) (fun hClosed => ?_)
      rotate_left
      · intro wv hSw; go_simp; all_goals (with_reducible rfl)
      (try simp only [List.getElem_toArray, List.getElem_cons_succ, List.getElem_cons_zero, put_at, List.set])
      refine wpAnyM_takeP (i := 10) (v := ?_) rfl (by kernel_rfl) (by kernel_rfl) (by kernel_rfl) (fun _ _ _ h => h) (by kernel_rfl) hClosed (Or.inl ⟨by rfl, ?_⟩) (fun _ => hHeld) (fun hClosed => ?_)
      rotate_left
      · intro wv hSw; go_simp; all_goals (with_reducible rfl)
      (try simp only [List.getElem_toArray, List.getElem_cons_succ, List.getElem_cons_zero, put_at, List.set])
      refine wpAnyM_takeP (i := 11) (v := ?_) rfl (by kernel_rfl) (by kernel_rfl) (by kernel_rfl) (fun _ _ _ h => h) (by kernel_rfl) hClosed (Or.inl ⟨by rfl, ?_⟩) (fun _ => hHeld) (fun hClosed => ?_)
      rotate_left
      · intro wv hSw; go_simp; all_goals (with_reducible rfl)
      (try simp only [List.getElem_toArray, List.getElem_cons_succ, List.getElem_cons_zero, put_at, List.set])
      refine wpAnyM_takeP (i := 12) (v := ?_) rfl (by kernel_rfl) (by kernel_rfl) (by kernel_rfl) (fun _ _ _ h => h) (by kernel_rfl) hClosed (Or.inl ⟨by rfl, ?_⟩) (fun _ => hHeld) (fun hClosed => ?_)
      rotate_left
      · intro wv hSw; go_simp; all_goals (with_reducible rfl)
      (try simp only [List.getElem_toArray, List.getElem_cons_succ, List.getElem_cons_zero, put_at, List.set])
      refine wpAnyM_take (i := 13) (v := .agg (enE Y).toArray) rfl (by kernel_rfl) (by kernel_rfl) (by kernel_rfl) (by kernel_rfl) (fun _ _ _ h => h) (by kernel_rfl) hClosed (Or.inl ⟨by rfl, ?_⟩) (fun _ => hHeld) (fun hClosed => ?_)
      · intro wv hSw; exact exec_load_at (by rfl) (by rfl) (own_elem enE_len hSw HY.out) Tryz.underlying125 rfl (by kernel_rfl)
      (try simp only [List.getElem_toArray, List.getElem_cons_succ, List.getElem_cons_zero, put_at, List.set])
      refine wpAnyM_takeP (i := 14) (v := ?_) rfl (by kernel_rfl) (by kernel_rfl) (by kernel_rfl) (fun _ _ _ h => h) (by kernel_rfl) hClosed (Or.inl ⟨by rfl, ?_⟩) (fun _ => hHeld) (fun hClosed => ?_)
      rotate_left
      · intro wv hSw; go_simp; all_goals (with_reducible rfl)
      (try simp only [List.getElem_toArray, List.getElem_cons_succ, List.getElem_cons_zero, put_at, List.set])
      refine wpAnyM_takeP (i := 15) (v := ?_) rfl (by kernel_rfl) (by kernel_rfl) (by kernel_rfl) (fun _ _ _ h => h) (by kernel_rfl) hClosed (Or.inl ⟨by rfl, ?_⟩) (fun _ => hHeld) (fun hClosed => ?_)
      rotate_left
      · intro wv hSw; go_simp; all_goals (with_reducible rfl)
      (try simp only [List.getElem_toArray, List.getElem_cons_succ, List.getElem_cons_zero, put_at, List.set])
      refine wpAnyM_takeP (i := 16) (v := ?_) rfl (by kernel_rfl) (by kernel_rfl) (by kernel_rfl) (fun _ _ _ h => h) (by kernel_rfl) hClosed (Or.inl ⟨by rfl, ?_⟩) (fun _ => hHeld) (fun hClosed => ?_)
      rotate_left
      · intro wv hSw; go_simp; all_goals (with_reducible rfl)
      (try simp only [List.getElem_toArray, List.getElem_cons_succ, List.getElem_cons_zero, put_at, List.set])
      refine wpAnyM_takeP (i := 17) (v := ?_) rfl (by kernel_rfl) (by kernel_rfl) (by kernel_rfl) (fun _ _ _ h => h) (by kernel_rfl) hClosed (Or.inl ⟨by rfl, ?_⟩) (fun _ => hHeld) (fun hClosed => ?_)
      rotate_left
      · intro wv hSw; go_simp; all_goals (with_reducible rfl)
      (try simp only [List.getElem_toArray, List.getElem_cons_succ, List.getElem_cons_zero, put_at, List.set])
      refine wpAnyM_takeP (i := 18) (v := ?_) rfl (by kernel_rfl) (by kernel_rfl) (by kernel_rfl) (fun _ _ _ h => h) (by kernel_rfl) hClosed (Or.inl ⟨by rfl, ?_⟩) (fun _ => hHeld) (fun hClosed => ?_)
      rotate_left
      · intro wv hSw; go_simp; all_goals (with_reducible rfl)
      (try simp only [List.getElem_toArray, List.getElem_cons_succ, List.getElem_cons_zero, put_at, List.set])
      refine wpAnyM_take (i := 19) (v := .agg (enE X).toArray) rfl (by kernel_rfl) (by kernel_rfl) (by kernel_rfl) (by kernel_rfl) (fun _ _ _ h => h) (by kernel_rfl) hClosed (Or.inl ⟨by rfl, ?_⟩) (fun _ => hHeld) (fun hClosed => ?_)
      · intro wv hSw; exact exec_load_at (by rfl) (by rfl) (own_elem enE_len hSw HX.out) Tryz.underlying125 rfl (by kernel_rfl)
      (try simp only [List.getElem_toArray, List.getElem_cons_succ, List.getElem_cons_zero, put_at, List.set])
      refine wpAnyM_takeP (i := 20) (v := ?_) rfl (by kernel_rfl) (by kernel_rfl) (by kernel_rfl) (fun _ _ _ h => h) (by kernel_rfl) hClosed (Or.inl ⟨by rfl, ?_⟩) (fun _ => hHeld) (fun hClosed => ?_)
      rotate_left
      · intro wv hSw; go_simp; all_goals (with_reducible rfl)
      (try simp only [List.getElem_toArray, List.getElem_cons_succ, List.getElem_cons_zero, put_at, List.set])
      refine wpAnyM_end (i := 21) rfl (by kernel_rfl) (by kernel_rfl) hClosed (fun KK hK => ?_)
      refine step_storeE rfl rfl rfl rfl enE_len enE_one (by kernel_rfl) hHeld HDL.out hxi ?_
      intro w1 p1 p2 p3
      refine hK.out _ _ (fun hClosed => ?_)
      clear hK KK
      (try simp only [List.getElem_toArray, List.getElem_cons_succ, List.getElem_cons_zero, put_at, List.set])
      refine wpAnyM_end (i := 22) rfl (by kernel_rfl) (by kernel_rfl) hClosed (fun KK hK => ?_)
      go_simp
      refine hK.out _ _ (fun hClosed => ?_)
      clear hK KK
      (try simp only [List.getElem_toArray, List.getElem_cons_succ, List.getElem_cons_zero, put_at, List.set])
      refine wpAnyM_end (i := 23) rfl (by kernel_rfl) (by kernel_rfl) hClosed (fun KK hK => ?_)
      refine step_storeE rfl rfl rfl rfl enE_len enE_one (by kernel_rfl) p1 (by rw [List.length_set]; exact HDL.out) hyi ?_
      intro w2 p4 p5 p6
      refine hK.out _ _ (fun hClosed => ?_)
      clear hK KK
      (try simp only [List.getElem_toArray, List.getElem_cons_succ, List.getElem_cons_zero, put_at, List.set])
      refine wpAnyM_over (by kernel_rfl) ?_
      have NX := Lib.hid (NEXT.out _ p4 (only_grown (only_grown (ON.out.later (Below.refl _ _).drew) p2) p5))
      clear p1 p2 p3 p4 p5 p6 hClosed hHeld
      go_wp2_with fail
      go_roundw
      case rel => exact ⟨i + 1, _, by go_num, by omega, NX⟩
      case measure => simp [intV]; omega
    · have d1 : decide ((i : Int) < (m : Int)) = false := decide_eq_false (by omega)
      have FIN : Hid (SrW w0 B g n c F wr) := Lib.hid (by
        have h9 := HS.out.2
        rw [swr_end him] at h9
        exact h9 ▸ HS.out.1)
      go_wp2_with fail
      go_end0
      exact ⟨rfl, FIN.out⟩
end Go.Proofs.YteinblpkcpjpnaaGreatDoor
/- Sorting records: rotation. -/
namespace Go.Proofs.YteinblpkcpjpnaaGreatDoor
open Go Go.RowKit Go.Sort
set_option linter.unusedVariables false
set_option linter.unusedSimpArgs false
set_option maxRecDepth 100000

theorem SrW.calls {w0 : World} {B g n c : Nat} {d d' : Array En} {f : FuncId} {args : Array Value} {w : World} {e : Ending} (h : Calls Tryz.prog f args w fun e' w' => e' = e ∧ SrW w0 B g n c d w') (he : d = d') : Calls Tryz.prog f args w fun e' w' => e' = e ∧ SrW w0 B g n c d' w' := he ▸ h
set_option maxHeartbeats 2000000 in
theorem rotate_at (a m b : Nat) {w0 w : World} {B g n c : Nat} {d : Array En} (h : SrW w0 B g n c d w) (h1 : a < m) (h2 : m < b) (h3 : b ≤ n) (hn : n ≤ 100000000) (fv : Value) :
    Calls Tryz.prog 113 #[.slice (some ⟨g, 0, none⟩) n c, .int .i64 (a : Int), .int .i64 (m : Int), .int .i64 (b : Int), fv] w fun e w' => e = .returned (.tuple #[]) ∧ SrW w0 B g n c (rot m d (m - a) (b - m)) w' := by
  obtain ⟨F, hF⟩ : ∃ F, rot m d (m - a) (b - m) = F := ⟨_, rfl⟩
  rw [hF]
  obtain ⟨i0, hi0⟩ : ∃ i, m - a = i := ⟨_, rfl⟩
  obtain ⟨j0, hj0⟩ : ∃ j, b - m = j := ⟨_, rfl⟩
  rw [hi0, hj0] at hF
  have e1 : IntKind.i64.wrap ((m : Int) - (a : Int)) = (i0 : Int) := by rw [IntKind.wrap_i64]; omega
  have e2 : IntKind.i64.wrap ((b : Int) - (m : Int)) = (j0 : Int) := by rw [IntKind.wrap_i64]; omega
  have B0 : 0 < i0 ∧ i0 ≤ m ∧ 0 < j0 ∧ m + j0 ≤ n := by omega
  have ST : Hid (SrW w0 B g n c d w ∧ rot m d i0 j0 = F) := Lib.hid ⟨h, hF⟩
  clear h hF hi0 hj0
  go_enter Tryz.func113, Tryz.ntmps113
  go_wp2_with fail
  go_loopw [10, 11] (fun vi vj wr => ∃ (i j : Nat) (d : Array En), vi = .int .i64 (i : Int) ∧ vj = .int .i64 (j : Int) ∧ 0 < i ∧ i ≤ m ∧ 0 < j ∧ m + j ≤ n ∧ Hid (SrW w0 B g n c d wr ∧ rot m d i j = F)) (fun vi vj _ => (intV vi).toNat + (intV vj).toNat)
  case atStart => exact ⟨i0, j0, d, rfl, rfl, B0.1, B0.2.1, B0.2.2.1, B0.2.2.2, ST⟩
  case round =>
    clear ST d e1 e2 B0
    obtain ⟨i, j, d, rfl, rfl, hi0, hi1, hj0, hj1, HS⟩ := hrel
    have wmi : IntKind.i64.wrap ((m : Int) - (i : Int)) = ((m - i : Nat) : Int) := by rw [IntKind.wrap_i64]; omega
    by_cases hij : i = j
    · subst hij
      have dn : ((i : Int) != (i : Int)) = false := by simp
      have SW := Lib.hid (swapRange_at (m - i) m i HS.out.1 (by omega) (by omega) hn fv)
      have HE : Hid (F = swr (m - i) m i d 0) := Lib.hid (by rw [← HS.out.2, rot_eq rfl])
      clear HS
      go_wp2_with fail
      refine SW.out.mono ?_
      rintro e w2 ⟨rfl, hw2⟩
      have W2 := Lib.hid hw2
      clear hw2 SW
      go_wp2_with fail
      go_end0
      exact ⟨rfl, by rw [HE.out]; exact W2.out⟩
    · have dn : ((i : Int) != (j : Int)) = true := by simp; omega
      by_cases hgt : j < i
      · have dg : decide ((i : Int) > (j : Int)) = true := decide_eq_true (by omega)
        have dg2 : decide ((j : Int) < (i : Int)) = true := decide_eq_true (by omega)
        have dg3 : decide (j < i) = true := decide_eq_true hgt
        have wij : IntKind.i64.wrap ((i : Int) - (j : Int)) = ((i - j : Nat) : Int) := by rw [IntKind.wrap_i64]; omega
        have SW := Lib.hid (swapRange_at (m - i) m j HS.out.1 (by omega) (by omega) hn fv)
        have HE : Hid (rot m (swr (m - i) m j d 0) (i - j) j = F) := Lib.hid (by rw [← HS.out.2, rot_gt hgt hj0])
        clear HS
        go_wp2_with fail
        refine SW.out.mono ?_
        rintro e w2 ⟨rfl, hw2⟩
        have W2 := Lib.hid (And.intro hw2 HE.out)
        clear hw2 SW HE
        go_wp2_with fail
        go_roundw
        case rel => exact ⟨i - j, j, _, rfl, rfl, by omega, by omega, hj0, hj1, W2⟩
        case measure => simp [intV]; omega
      · have hlt : i < j := by omega
        have dg : decide ((i : Int) > (j : Int)) = false := decide_eq_false (by omega)
        have dg2 : decide ((j : Int) < (i : Int)) = false := decide_eq_false (by omega)
        have dg3 : decide (j < i) = false := decide_eq_false hgt
        have wij : IntKind.i64.wrap ((j : Int) - (i : Int)) = ((j - i : Nat) : Int) := by rw [IntKind.wrap_i64]; omega
        have wmj : IntKind.i64.wrap ((m : Int) + (j : Int)) = (m : Int) + (j : Int) := by rw [IntKind.wrap_i64]; omega
        have wmk : IntKind.i64.wrap ((m : Int) + (j : Int) - (i : Int)) = ((m + j - i : Nat) : Int) := by rw [IntKind.wrap_i64]; omega
        have SW := Lib.hid (swapRange_at (m - i) (m + j - i) i HS.out.1 (by omega) (by omega) hn fv)
        have HE : Hid (rot m (swr (m - i) (m + j - i) i d 0) i (j - i) = F) := Lib.hid (by rw [← HS.out.2, rot_lt hlt hi0])
        clear HS
        go_wp2_with fail
        refine SW.out.mono ?_
        rintro e w2 ⟨rfl, hw2⟩
        have W2 := Lib.hid (And.intro hw2 HE.out)
        clear hw2 SW HE
        go_wp2_with fail
        go_roundw
        case rel => exact ⟨i, j - i, _, rfl, rfl, hi0, hi1, by omega, by omega, W2⟩
        case measure => simp [intV]; omega
end Go.Proofs.YteinblpkcpjpnaaGreatDoor
