/- Part of a chain: FnPth, FnKep, FnFst, FnHas, FnDrp, FnIns, FnAdd. -/
import Derived.Test.YtimkgaokcldgkaaGreatDoorFq31
import Derived.Test.YtimkgaokcldgkaaGreatDoorFq28
import Derived.Test.YtimkgaokcldgkaaGreatDoorFq21
import Derived.Test.YtimkgaokcldgkaaGreatDoorFq22
/- Package front: path (a Path that is in memory, or in the log). -/
namespace Go.Proofs.YtimkgaokcldgkaaGreatDoor
open Go Go.RowKit Go.Maps
set_option linter.unusedVariables false
set_option linter.unusedSimpArgs false
set_option maxRecDepth 10000

def pathF (F : Ft) (g : Lg) (id : Int) : ByteArray := match gA F.ps id with
  | some p => p
  | none => ((loadL g id).getD rc0).path
theorem pathF_some {F : Ft} {g : Lg} {id : Int} {p : ByteArray} (h : gA F.ps id = some p) : pathF F g id = p := by unfold pathF; rw [h]
theorem pathF_none {F : Ft} {g : Lg} {id : Int} (h : gA F.ps id = none) : pathF F g id = ((loadL g id).getD rc0).path := by unfold pathF; rw [h]
section
variable {w w' : World} {RF RD RL : Nat → Prop} {f L N d : Nat} {F : Ft} {g : Lg}
theorem fpath_at (h : FtM w RF f L N F) (hl : LgM w RD RL d L g) (id : Int) (hid : okI id) : Calls Tryz.prog 34 #[.pointer (some ⟨f, 0, none⟩), .int .i64 id] w fun e w' => e = .returned (.string (pathF F g id)) ∧ Below w.heap.size w w' := by
  obtain ⟨qm, hm, pm, S, A, C, hc⟩ := h.mm
  have lk := hc.ps.look_ok tyX id hid
  have c5 : w.cell? ⟨f, 5, none⟩ = some (.map (some pm)) := hc.box.cell 5
  have HC := Lib.hid hc
  have HL := Lib.hid hl
  cases hg : gA F.ps id with
  | some p =>
    rw [hg] at lk
    rw [pathF_some hg]
    replace lk : (Instr.lookup 73 (.map (some pm)) (.int .i64 id) true).run Tryz.prog w = .ok (.tuple #[.agg #[.string p], .bool true]) w := lk
    clear hg hc h hl
    go_enter Tryz.func34, Tryz.ntmps34
    go_wp2
    go_ret
    exact ⟨rfl, (Below.refl w.heap.size w).alloc (Nat.le_refl _) _⟩
  | none =>
    rw [hg] at lk
    rw [pathF_none hg]
    replace lk : (Instr.lookup 73 (.map (some pm)) (.int .i64 id) true).run Tryz.prog w = .ok (.tuple #[.agg #[.string ⟨#[]⟩], .bool false]) w := lk
    clear hg hc h hl
    have LDW := Lib.hid (fun (W : World) (hW : Below w.heap.size w W) => load_at (HL.out.later hW) id hid)
    obtain ⟨X, hX⟩ : ∃ X, (loadL g id).getD rc0 = X := ⟨_, rfl⟩
    obtain ⟨q, hq⟩ : ∃ q, (loadL g id).isSome = q := ⟨_, rfl⟩
    rw [hX, hq] at LDW
    rw [hX]
    clear hX hq
    obtain ⟨x0, x1, x2, x3, x4, x5⟩ := X
    unfold reqL at LDW
    dsimp only at LDW ⊢
    go_enter Tryz.func34, Tryz.ntmps34
    go_upto_region 4 with fail
    refine code_forget (fun W => Hid (Below w.heap.size w W)) (Lib.hid ((Below.refl w.heap.size w).alloc (Nat.le_refl _) _)) ?_
    rintro w1 B1
    have c2 : w1.cell? ⟨f, 2, none⟩ = some (.pointer (some ⟨L, 0, none⟩)) := (HC.out.box.later B1.out).cell 2
    have LD := Lib.hid (LDW.out _ B1.out)
    clear lk c5
    go_wp2_with fail
    refine LD.out.mono ?_
    rintro e w2 ⟨rfl, hb⟩
    have B2 := Lib.hid (B1.out.trans (hb.mono B1.out.size))
    clear hb LD
    go_wp2
    go_ret
    have hs := B2.out.size
    refine ⟨rfl, ?_⟩
    first
    | exact B2.out.alloc B2.out.size _
    | exact (((((B2.out.alloc B2.out.size _).setCell (p := ⟨w2.heap.size, 0, none⟩) hs _).setCell (p := ⟨w2.heap.size, 1, none⟩) hs _).setCell (p := ⟨w2.heap.size, 2, none⟩) hs _).setCell (p := ⟨w2.heap.size, 3, none⟩) hs _).setCell (p := ⟨w2.heap.size, 4, none⟩) hs _
end
end Go.Proofs.YtimkgaokcldgkaaGreatDoor
/- Package front: keep. -/
namespace Go.Proofs.YtimkgaokcldgkaaGreatDoor
open Go Go.RowKit Go.Maps
set_option linter.unusedVariables false
set_option linter.unusedSimpArgs false
set_option maxRecDepth 10000

theorem sub_len {α β : Type} : ∀ {T : List (Int × α)} {H : List (Int × β)}, (T.map Prod.fst).Nodup → (∀ id, (gA T id).isSome = true → (gA H id).isSome = true) → T.length ≤ H.length
  | [], _, _, _ => Nat.zero_le _
  | (m, c) :: t, H, hn, hs => by
    rw [List.map_cons, List.nodup_cons] at hn
    have h1 := hs m (by rw [gA, if_pos rfl]; rfl)
    have h2 := len_dA_in h1
    have h3 := sub_len (T := t) (H := dA H m) hn.2 (fun id hi => by
      have hne : id ≠ m := fun e => hn.1 (e ▸ gA_keys.2 hi)
      rw [gA_del, if_neg hne]
      exact hs id (by rw [gA, if_neg (fun e => hne e.symm)]; exact hi))
    rw [List.length_cons]
    omega
structure KepL (w wr : World) (pm n : Nat) (D : DataW Value) (left : Lit → Bool) (cnt : Nat) (ss : List Int) (nw : Int) (fd : Bool) : Prop where
  rg : wr.ranges Tryz.prog 3 RHm pm w.heap.size n D left cnt
  tot : ss.length + cnt ≤ n
  col : CollectedI D left ss
  fnd : (fd = true ∧ nw ∈ ss) ∨ (fd = false ∧ nw = 0 ∧ ss = [])
  bel : Below w.heap.size w wr
set_option maxHeartbeats 2000000 in
theorem fkeep_at {w : World} {RF : Nat → Prop} {f L N : Nat} {F : Ft} (h : FtM w RF f L N F) (id : Int) (hid : okI id) (hin : (gA F.hs id).isSome = true) (p : ByteArray) (hN : N ≤ 900000) :
    Calls Tryz.prog 35 #[.pointer (some ⟨f, 0, none⟩), .int .i64 id, .string p] w fun e w' => e = .returned (.tuple #[]) ∧ ∃ S', kepS F.ps F.mem id p S' ∧ FtM w' RF f L N ⟨F.per, F.mem, F.R, F.hs, S'⟩ ∧ Only RF w w' := by
  obtain ⟨qm, hm, pm, S, A, C, hc⟩ := h.mm
  have OK := Lib.hid h.ok
  have HIN := Lib.hid hin
  have FINX : Hid (∀ W S', kepS F.ps F.mem id p S' → (∀ T : S'.length ≤ N, FtC W RF f L N ⟨F.per, F.mem, F.R, F.hs, S'⟩ qm hm pm S A C) → (S'.map Prod.fst).Nodup → FtM W RF f L N ⟨F.per, F.mem, F.R, F.hs, S'⟩) := Lib.hid (fun W S' hk hf hnd => by
    have ok2 := OK.out.kep HIN.out hk
    have hl : S'.length ≤ N := Nat.le_trans (sub_len hnd ok2.sub) hc.hl
    exact ⟨⟨qm, hm, pm, S, A, C, hf hl⟩, ok2⟩)
  have HC := Lib.hid hc
  have HI := Lib.hid hid
  have lk := hc.ps.look_ok tyX id hid
  have c5 : w.cell? ⟨f, 5, none⟩ = some (.map (some pm)) := hc.box.cell 5
  obtain ⟨n, hn⟩ : ∃ n, F.ps.length = n := ⟨_, rfl⟩
  have HNL := Lib.hid hn
  have HM1 := Lib.hid h.ok.mem1
  obtain ⟨t, ht⟩ : ∃ t, ((gA F.ps id).map txV).getD (txV ⟨#[]⟩) = t := ⟨_, rfl⟩
  obtain ⟨tp, rfl⟩ : ∃ tp, t = .agg #[.string tp] := by
    rw [← ht]
    cases gA F.ps id <;> exact ⟨_, rfl⟩
  obtain ⟨ok, hok⟩ : ∃ b, (gA F.ps id).isSome = b := ⟨_, rfl⟩
  have HOK := Lib.hid hok
  rw [ht, hok] at lk
  obtain ⟨me, hme⟩ : ∃ m, F.mem = m := ⟨_, rfl⟩
  have HME := Lib.hid hme
  have B0 := Lib.hid ((Below.refl w.heap.size w).alloc (Nat.le_refl _) (.cells #[.string tp] 111))
  clear ht hok hme hn hc h hid hin
  go_enter Tryz.func35, Tryz.ntmps35
  go_upto_region 1 with fail
  refine code_forget (fun W => Hid (Below w.heap.size w W)) B0 ?_
  rintro w1 B1
  have H1 := Lib.hid (HC.out.later B1.out)
  have d5 : w1.cell? ⟨f, 5, none⟩ = some (.map (some pm)) := H1.out.box.cell 5
  have d1 : w1.cell? ⟨f, 1, none⟩ = some (.int .i64 me) := by rw [← HME.out]; exact H1.out.box.cell 1
  have ML : ∀ k ty, (Builtin.len_ #[73] ty #[.map (some pm)]).run Tryz.prog (w1.drewN k) = .ok (.int .i64 (n : Int)) (w1.drewN k) := fun k ty => by
    have h9 := (H1.out.ps.block (w' := w1.drewN k) rfl).len tyX ty
    rw [HNL.out] at h9
    exact h9
  clear lk c5
  obtain ⟨q, hq⟩ : ∃ q, (!ok && decide (me ≤ (n : Int))) = q := ⟨_, rfl⟩
  have HQ := Lib.hid hq
  clear hq
  go_cut [33] (fun v wx => v = .bool q ∧ Hid (Below w1.heap.size w1 wx))
  case first =>
    cases ok with
    | true =>
      obtain rfl : false = q := by simpa using HQ.out
      go_quiet (fail)
      go_wp2
      go_meet
      exact ⟨rfl, Lib.hid (dk_drewN (Below.refl _ _) nq)⟩
    | false =>
      obtain rfl : decide (me ≤ (n : Int)) = q := by simpa using HQ.out
      go_quiet (fail)
      go_wp2
      go_meet
      exact ⟨rfl, Lib.hid (dk_drewN (Below.refl _ _) nq)⟩
  case rest =>
    obtain ⟨rfl, BC⟩ := hcut
    obtain ⟨w2, hw2⟩ : ∃ W, wc = W := ⟨_, rfl⟩
    rw [hw2] at BC ⊢
    have B2 := Lib.hid (B1.out.trans (BC.out.mono B1.out.size))
    clear hw2 BC ML d5 d1 H1 B0 B1
    have H2 := Lib.hid (HC.out.later B2.out)
    go_upto_if 33 with fail
    go_cut [] (fun wx => ∃ T : List (Int × ByteArray), Hid (FtC wx RF f L N ⟨F.per, F.mem, F.R, F.hs, T⟩ qm hm pm S A C) ∧ Hid (Only RF w wx) ∧ Hid (kepS F.ps F.mem id p (pA T id p)))
    case first =>
      cases q with
      | false =>
        have KS : Hid (kepS F.ps F.mem id p (pA F.ps id p)) := Lib.hid (Or.inl ⟨by
          have h9 := HQ.out
          rw [HOK.out]
          rw [Bool.and_eq_false_iff] at h9
          rcases h9 with h9 | h9
          · left; simpa using h9
          · right; have := of_decide_eq_false h9; have := HME.out; have := HNL.out; omega, rfl⟩)
        have ON := Lib.hid (Only.of_below RF B2.out)
        go_wp2
        go_meet
        exact ⟨F.ps, H2, ON, KS⟩
      | true =>
        have HX : Hid (gA F.ps id = none ∧ F.mem ≤ (F.ps.length : Int) ∧ 1 ≤ n) := Lib.hid (by
          have h9 := HQ.out
          rw [Bool.and_eq_true] at h9
          have h10 := of_decide_eq_true h9.2
          have := HME.out
          have := HNL.out
          have := HM1.out
          refine ⟨?_, by omega, by omega⟩
          cases hg : gA F.ps id with
          | none => rfl
          | some v =>
            have h11 := HOK.out
            rw [hg] at h11
            rw [← h11] at h9
            simp at h9)
        obtain ⟨D, es, hes, hown, hperm, _, _⟩ := H2.out.ps.keys tyX
        rw [HNL.out] at hown
        have hsz : Maps.size D ≤ n := hown.size_le
        have HP : Hid ((F.ps.map Prod.fst).Perm (intKeys D)) := Lib.hid (by
          have := hperm.map (_root_.Go.intOf : Lit → Int)
          rw [List.map_map, List.map_map] at this
          rw [hes]
          exact this)
        have HPM := Lib.hid H2.out.ps.lt
        have HOWN := Lib.hid hown
        have d5 : w2.cell? ⟨f, 5, none⟩ = some (.map (some pm)) := H2.out.box.cell 5
        clear hperm hes
        go_wp2_with (first | (at_range; refine wpList_range_own _ rfl _ 73 rfl 3 111 tyX.key tyX.und RHm pm n D rfl HOWN.out ?_; intro w0 hrg0 hg0 hs0) | go_in)
        go_frame
        go_loopw [8, 9] (fun v8 v9 wr => ∃ (left : Lit → Bool) (cnt : Nat) (ss : List Int) (nw : Int) (fd : Bool), v8 = .int .i64 nw ∧ v9 = .bool fd ∧ Hid (KepL w2 wr pm n D left cnt ss nw fd)) (fun _ _ wr => wr.rangeLeft pm w2.heap.size)
        case atStart => exact ⟨_, _, [], 0, false, rfl, rfl, Lib.hid ⟨hrg0, by simpa using hsz, CollectedI.start D, Or.inr ⟨rfl, rfl, rfl⟩, (Below.refl _ w2).grown hg0 (Nat.le_refl _) (fun k hk => by cases hk)⟩⟩
        case round =>
          obtain ⟨left, cnt, ss, nw, fd, rfl, rfl, HK⟩ := hrel
          go_wp2_with (first
            | (at_next; refine wpList_next_ranges _ rfl _ rfl 3 tyX.key RHm (Value.int .i64) _root_.id (fun key kl hk => by obtain ⟨x, hx, _⟩ := Maps.keyOf_i64 Tryz.underlying3 hk; exact ⟨x, hx⟩) (fun v _ _ => ⟨v, rfl⟩) pm w2.heap.size n _ _ _ rfl HK.out.rg ?_ ?_)
            | go_in)
          · intro hc0 hl0
            have HKP : Hid (ss.Perm (F.ps.map Prod.fst)) := Lib.hid ((HK.out.col.perm HOWN.out tyX.key Tryz.underlying3 hl0).trans HP.out.symm)
            have HNW : Hid (nw ∈ F.ps.map Prod.fst) := Lib.hid (by
              have h9 := HKP.out.length_eq
              rw [List.length_map, HNL.out] at h9
              rcases HK.out.fnd with ⟨_, h1⟩ | ⟨_, _, h1⟩
              · exact HKP.out.mem_iff.1 h1
              · have := HX.out.2.2
                rw [h1] at h9
                simp at h9
                omega)
            have HF := Lib.hid (H2.out.later HK.out.bel)
            have e5 : wr.cell? ⟨f, 5, none⟩ = some (.map (some pm)) := HF.out.box.cell 5
            obtain ⟨w5, hrun5, hT5, ht5⟩ := HF.out.ps.drop tyX nw (by
              obtain ⟨z, hz, e⟩ := List.mem_map.1 HNW.out
              rw [← e]
              exact HF.out.ps.kk z hz) 0
            have H5 := Lib.hid (HF.out.psU ht5 hT5 (Nat.le_trans (len_dA _ _) HF.out.pl))
            have ON := Lib.hid (((Only.of_below RF B2.out).later HK.out.bel).trans (turned_only (R := RF) ht5 HF.out.mp) (fun k hk => Or.inl hk))
            have KS : Hid (kepS F.ps F.mem id p (pA (dA F.ps nw) id p)) := Lib.hid (Or.inr ⟨HX.out.1, HX.out.2.1, nw, gA_keys.1 HNW.out, rfl⟩)
            clear hT5 ht5
            go_wp2
            go_meet
            exact ⟨_, H5, ON, KS⟩
          · intro x cc kl yd yp w3 cnt2 hkey hlk hv hat hrg2 hlt hg2 hs2 hen
            obtain ⟨x', ex, rfl, hwf⟩ := Maps.keyOf_i64 Tryz.underlying3 hkey
            obtain rfl : x = x' := by injection ex
            have hit := HK.out.rg.iter_walk
            have B3 := Lib.hid (HK.out.bel.grown hg2 HK.out.bel.size (fun k hk => by injection hk with hk; omega))
            have RG2 := Lib.hid hrg2
            have COL := Lib.hid (HK.out.col.step hlk hat)
            have TOT : Hid ((ss ++ [x]).length + cnt2 ≤ n) := Lib.hid (by have := HK.out.tot; rw [List.length_append, List.length_singleton]; omega)
            have LT := Lib.hid hlt
            have L0 := Lib.hid HK.out.rg.left_eq
            have NEW : Hid (∀ nw2, nw2 ∈ ss ++ [x] → KepL w2 w3 pm n D (fun z => left z && !z.sameKey (.int .i64 x)) cnt2 (ss ++ [x]) nw2 true) := Lib.hid (fun nw2 hm2 => ⟨RG2.out, TOT.out, COL.out, Or.inl ⟨rfl, hm2⟩, B3.out⟩)
            have HFN := Lib.hid HK.out.fnd
            clear hs2 hit hg2 hrg2 hlk hat hkey hlt HK
            cases fd with
            | false =>
              have NX := Lib.hid (NEW.out x (List.mem_append.2 (Or.inr List.mem_cons_self)))
              go_wp2
              go_roundw
              case rel => exact ⟨_, cnt2, ss ++ [x], x, true, rfl, rfl, NX⟩
              case measure => rw [NX.out.rg.left_eq, L0.out]; exact LT.out
            | true =>
              by_cases hg : nw < x
              · have hgd : decide (nw < x) = true := decide_eq_true hg
                have NX := Lib.hid (NEW.out x (List.mem_append.2 (Or.inr List.mem_cons_self)))
                go_wp2
                go_roundw
                case rel => exact ⟨_, cnt2, ss ++ [x], x, true, rfl, rfl, NX⟩
                case measure => rw [NX.out.rg.left_eq, L0.out]; exact LT.out
              · have hgd : decide (nw < x) = false := decide_eq_false hg
                have NX := Lib.hid (NEW.out nw (List.mem_append.2 (Or.inl (by
                  rcases HFN.out with ⟨_, h1⟩ | ⟨h1, _⟩
                  · exact h1
                  · cases h1))))
                go_wp2
                go_roundw
                case rel => exact ⟨_, cnt2, ss ++ [x], nw, true, rfl, rfl, NX⟩
                case measure => rw [NX.out.rg.left_eq, L0.out]; exact LT.out
    case rest =>
      obtain ⟨T, H3, ON, KS⟩ := hcut
      obtain ⟨w3, hw3⟩ : ∃ W, wc = W := ⟨_, rfl⟩
      rw [hw3] at H3 ON ⊢
      clear hw3 H2
      have e5 : w3.cell? ⟨f, 5, none⟩ = some (.map (some pm)) := H3.out.box.cell 5
      obtain ⟨w5, hrun5, hT5, ht5⟩ := H3.out.ps.store tyX id HI.out p (by have := H3.out.pl; omega)
      have hrun5 : (Instr.mapUpdate 73 (.map (some pm)) (.int .i64 id) (.agg #[.string p])).run Tryz.prog w3 = .ok () w5 := hrun5
      have FM := Lib.hid (FINX.out w5 _ KS.out (fun hl => by
        have := H3.out.mono (Nat.le_refl N)
        exact this.psU ht5 hT5 hl) hT5.nd)
      have OF := Lib.hid (ON.out.trans (turned_only (R := RF) ht5 H3.out.mp) (fun k hk => Or.inl hk))
      clear hT5 ht5 FINX
      go_wp2
      exact bodyPost_end (v := .tuple #[]) (by simp [results, Tryz.results35, go_sem]) rfl ⟨rfl, _, KS.out, FM.out, OF.out⟩
end Go.Proofs.YtimkgaokcldgkaaGreatDoor
/- Package front: First. -/
namespace Go.Proofs.YtimkgaokcldgkaaGreatDoor
open Go Go.RowKit Go.Maps
set_option linter.unusedVariables false
set_option linter.unusedSimpArgs false
set_option maxRecDepth 10000

def wiP (r : Rq) (p : ByteArray) : Rq := ⟨r.id, r.host, p, r.prio, r.til⟩
def FirstP (RF : Nat → Prop) (f L N : Nat) (F : Ft) (g : Lg) (x : Int) (w : World) (e : Ending) (w' : World) : Prop :=
  match F.R x with
  | [] => e = .returned (.tuple #[.agg (rqA rq0), .bool false]) ∧ Below w.heap.size w w'
  | r :: t => e = .returned (.tuple #[.agg (rqA (wiP r (pathF F g r.id))), .bool true]) ∧ ∃ S', kepS F.ps F.mem r.id (pathF F g r.id) S' ∧ FtM w' RF f L N ⟨F.per, F.mem, F.R, F.hs, S'⟩ ∧ Only RF w w'
section
variable {w w' : World} {RF RD RL : Nat → Prop} {f L N d : Nat} {F : Ft} {g : Lg} {qm hm pm : Nat} {S : List (Int × Nat)} {A : Int → Option Addr} {C : Int → Nat}
theorem FtC.firstQ (h : FtC w RF f L N F qm hm pm S A C) (x : Int) : Calls Tryz.prog 33 #[.pointer ((gA S x).map fun q => ⟨q, 0, none⟩)] w fun e w' => e = .returned (.tuple #[.agg (rqA (headQ (F.R x))), .bool (!(F.R x).isEmpty)]) ∧ Below w.heap.size w w' := by
  cases hg : gA S x with
  | none =>
    rw [h.emp x hg]
    exact first_nil w
  | some q => exact first_at (h.each x q hg)
set_option maxHeartbeats 2000000 in
theorem ffirst_at (h : FtM w RF f L N F) (hl : LgM w RD RL d L g) (x : Int) (hx : okI x) (hN : N ≤ 900000) : Calls Tryz.prog 17 #[.pointer (some ⟨f, 0, none⟩), .int .i64 x] w (FirstP RF f L N F g x w) := by
  obtain ⟨qm, hm, pm, S, A, C, hc⟩ := h.mm
  have HC := Lib.hid hc
  have H := Lib.hid h
  have HL := Lib.hid hl
  have HX := Lib.hid hx
  have QF : Hid (∀ W, Below w.heap.size w W → Calls Tryz.prog 33 #[.pointer ((gA S x).map fun q => ⟨q, 0, none⟩)] W fun e w' => e = .returned (.tuple #[.agg (rqA (headQ (F.R x))), .bool (!(F.R x).isEmpty)]) ∧ Below W.heap.size W w') := Lib.hid (fun W hW => (hc.later hW).firstQ x)
  have LK : Hid (∀ W, Below w.heap.size w W → (Instr.lookup 71 (.map (some qm)) (.int .i64 x) false).run Tryz.prog W = .ok (.pointer ((gA S x).map fun q => ⟨q, 0, none⟩)) W) := Lib.hid (fun W hW => (hc.later hW).lookQ x hx)
  obtain ⟨qp, hqp⟩ : ∃ p, ((gA S x).map fun q => (⟨q, 0, none⟩ : Addr)) = p := ⟨_, rfl⟩
  rw [hqp] at QF LK
  have RB := Lib.hid (Box.new w #[.int .i64 0, .string ⟨#[]⟩, .string ⟨#[]⟩, .int .i64 0, .int .i64 0] 35)
  have B0 := Lib.hid ((Below.refl w.heap.size w).alloc (Nat.le_refl _) (.cells #[.int .i64 0, .string ⟨#[]⟩, .string ⟨#[]⟩, .int .i64 0, .int .i64 0] 35))
  clear hqp
  unfold FirstP
  cases hr : F.R x with
  | nil =>
    rw [hr] at QF
    have QF : Hid (∀ W, Below w.heap.size w W → Calls Tryz.prog 33 #[.pointer qp] W fun e w' => e = .returned (.tuple #[.agg #[.int .i64 0, .string ⟨#[]⟩, .string ⟨#[]⟩, .int .i64 0, .int .i64 0], .bool false]) ∧ Below W.heap.size W w') := QF
    show Calls _ _ _ _ fun e w' => e = .returned (.tuple #[.agg #[.int .i64 0, .string ⟨#[]⟩, .string ⟨#[]⟩, .int .i64 0, .int .i64 0], .bool false]) ∧ Below w.heap.size w w'
    clear h hc hl hr hx
    go_enter Tryz.func17, Tryz.ntmps17
    go_upto_region 1 with fail
    refine code_forget (fun W => Hid (Box W w.heap.size #[.int .i64 0, .string ⟨#[]⟩, .string ⟨#[]⟩, .int .i64 0, .int .i64 0] 35) ∧ Hid (Below w.heap.size w W)) ⟨RB, B0⟩ ?_
    obtain ⟨rb, hrb⟩ : ∃ p, w.heap.size = p := ⟨_, rfl⟩
    have HRB := Lib.hid hrb
    rw [hrb]
    rintro w1 ⟨BR1, B1⟩
    rw [← HRB.out] at B1
    clear hrb RB B0
    have c3 : w1.cell? ⟨f, 3, none⟩ = some (.map (some qm)) := (HC.out.box.later B1.out).cell 3
    have lk := LK.out _ B1.out
    go_wp2_with fail
    refine (QF.out _ B1.out).mono ?_
    rintro e w2 ⟨rfl, hb⟩
    have BR2 := Lib.hid (BR1.out.later hb)
    have B2 := Lib.hid (B1.out.trans (hb.mono B1.out.size))
    clear hb QF LK lk c3 BR1
    go_upto_region 5 with fail
    refine code_forget (fun W => Hid (Below w2.heap.size w2 W)) (Lib.hid (by
      first
      | exact (Below.refl w2.heap.size w2).alloc (Nat.le_refl _) _
      | exact ((((((Below.refl w2.heap.size w2).alloc (Nat.le_refl _) _).setCell (p := ⟨w2.heap.size, 0, none⟩) (Nat.le_refl _) _).setCell (p := ⟨w2.heap.size, 1, none⟩) (Nat.le_refl _) _).setCell (p := ⟨w2.heap.size, 2, none⟩) (Nat.le_refl _) _).setCell (p := ⟨w2.heap.size, 3, none⟩) (Nat.le_refl _) _).setCell (p := ⟨w2.heap.size, 4, none⟩) (Nat.le_refl _) _)) ?_
    rintro w3 B3
    have RZ := Lib.hid (BR2.out.later B3.out)
    have BZ := Lib.hid (B2.out.trans (B3.out.mono B2.out.size))
    have s0 := RZ.out.cell 0
    have t0 := RZ.out.free 0
    have s1 := RZ.out.cell 1
    have t1 := RZ.out.free 1
    have s2 := RZ.out.cell 2
    have t2 := RZ.out.free 2
    have s3 := RZ.out.cell 3
    have t3 := RZ.out.free 3
    have s4 := RZ.out.cell 4
    have t4 := RZ.out.free 4
    have lS := RZ.out.lt
    have hle : w.heap.size ≤ rb := by have := HRB.out; omega
    go_wp2
    exact bodyPost_ret (v := .tuple #[.agg #[.int .i64 0, .string ⟨#[]⟩, .string ⟨#[]⟩, .int .i64 0, .int .i64 0], .bool false]) (by simp [results, Tryz.results17, go_sem, s0, s1, s2, s3, s4]) rfl ⟨rfl, (((((BZ.out.setCell (p := ⟨rb, 0, none⟩) hle _).setCell (p := ⟨rb, 1, none⟩) hle _).setCell (p := ⟨rb, 2, none⟩) hle _).setCell (p := ⟨rb, 3, none⟩) hle _).setCell (p := ⟨rb, 4, none⟩) hle _)⟩
  | cons r t =>
    have HI : Hid (gA F.hs r.id = some x) := Lib.hid ((h.ok.ids r.id x).2 ⟨r, by rw [hr]; exact List.mem_cons_self, rfl⟩)
    have HOI := Lib.hid (hc.okh HI.out)
    rw [hr] at QF
    obtain ⟨ri, rh, rp, rr, rt⟩ := r
    have QF : Hid (∀ W, Below w.heap.size w W → Calls Tryz.prog 33 #[.pointer qp] W fun e w' => e = .returned (.tuple #[.agg #[.int .i64 ri, .string rh, .string rp, .int .i64 rr, .int .i64 rt], .bool true]) ∧ Below W.heap.size W w') := QF
    dsimp only at HI HOI ⊢
    obtain ⟨P, hP⟩ : ∃ P, pathF F g ri = P := ⟨_, rfl⟩
    have HP := Lib.hid hP
    rw [hP]
    show Calls _ _ _ _ fun e w' => e = .returned (.tuple #[.agg #[.int .i64 ri, .string rh, .string P, .int .i64 rr, .int .i64 rt], .bool true]) ∧ _
    clear h hc hl hr hx hP
    go_enter Tryz.func17, Tryz.ntmps17
    go_upto_region 1 with fail
    refine code_forget (fun W => Hid (Box W w.heap.size #[.int .i64 0, .string ⟨#[]⟩, .string ⟨#[]⟩, .int .i64 0, .int .i64 0] 35) ∧ Hid (Below w.heap.size w W)) ⟨RB, B0⟩ ?_
    obtain ⟨rb, hrb⟩ : ∃ p, w.heap.size = p := ⟨_, rfl⟩
    have HRB := Lib.hid hrb
    rw [hrb]
    rintro w1 ⟨BR1, B1⟩
    rw [← HRB.out] at B1
    clear hrb RB B0
    have c3 : w1.cell? ⟨f, 3, none⟩ = some (.map (some qm)) := (HC.out.box.later B1.out).cell 3
    have lk := LK.out _ B1.out
    go_wp2_with fail
    refine (QF.out _ B1.out).mono ?_
    rintro e w2 ⟨rfl, hb⟩
    have BR2 := Lib.hid (BR1.out.later hb)
    have B2 := Lib.hid (B1.out.trans (hb.mono B1.out.size))
    clear hb QF LK lk c3 BR1
    go_upto_region 6 with fail
    refine code_forget (fun W => Hid (Box W w2.heap.size #[.int .i64 ri, .string rh, .string rp, .int .i64 rr, .int .i64 rt] 35) ∧ Hid (Below w2.heap.size w2 W)) ⟨Lib.hid (Box.new w2 _ _), Lib.hid ((Below.refl w2.heap.size w2).alloc (Nat.le_refl _) _)⟩ ?_
    obtain ⟨qb, hqb⟩ : ∃ p, w2.heap.size = p := ⟨_, rfl⟩
    have HQB := Lib.hid hqb
    rw [hqb]
    rintro w3 ⟨BQ3, B3'⟩
    rw [← HQB.out] at B3'
    have BR3 := Lib.hid (BR2.out.later B3'.out)
    have B3 := Lib.hid (B2.out.trans (B3'.out.mono B2.out.size))
    have NE : Hid (rb ≠ qb ∧ ¬ RF rb ∧ ¬ RF qb ∧ w.heap.size ≤ rb ∧ w.heap.size ≤ qb) := Lib.hid ⟨by have := BR2.out.lt; have := HQB.out; omega, fun e => by have := H.out.lt e; have := HRB.out; omega, fun e => by have := H.out.lt e; have := HQB.out; have := B2.out.size; omega, by have := HRB.out; omega, by have := HQB.out; have := B2.out.size; omega⟩
    clear hqb B3' BR2
    have PT := Lib.hid (fpath_at (H.out.later B3.out) (HL.out.later B3.out) ri HOI.out)
    rw [HP.out] at PT
    have q0 := BQ3.out.cell 0
    go_wp2_with fail
    refine PT.out.mono ?_
    rintro e w4 ⟨rfl, hb⟩
    have BQ4 := Lib.hid (BQ3.out.later hb)
    have BR4 := Lib.hid (BR3.out.later hb)
    have B4 := Lib.hid (B3.out.trans (hb.mono B3.out.size))
    clear hb PT q0 BQ3 BR3
    have q2 := BQ4.out.cell 2
    have z2 := BQ4.out.free 2
    have lq := BQ4.out.lt
    go_upto_region 7 with fail
    refine code_forget (fun W => Hid (Box W qb #[.int .i64 ri, .string rh, .string P, .int .i64 rr, .int .i64 rt] 35) ∧ Hid (Box W rb #[.int .i64 0, .string ⟨#[]⟩, .string ⟨#[]⟩, .int .i64 0, .int .i64 0] 35) ∧ Hid (Below w.heap.size w W)) ⟨Lib.hid (BQ4.out.set 2 (.string P)), Lib.hid (BR4.out.other (a := ⟨qb, 2, none⟩) NE.out.1 (.string P)), Lib.hid (B4.out.setCell (p := ⟨qb, 2, none⟩) NE.out.2.2.2.2 _)⟩ ?_
    rintro w5 ⟨BQ5, BR5, B5⟩
    clear q2 z2 lq BQ4 BR4
    have KP := Lib.hid (fkeep_at (H.out.later B5.out) ri HOI.out (by rw [HI.out]; rfl) P hN)
    have q0 := BQ5.out.cell 0
    have q2 := BQ5.out.cell 2
    go_wp2_with fail
    refine KP.out.mono ?_
    rintro e w6 ⟨rfl, S', hk, hf, ho⟩
    have BQ6 := Lib.hid (BQ5.out.only ho NE.out.2.2.1)
    have BR6 := Lib.hid (BR5.out.only ho NE.out.2.1)
    have ON := Lib.hid ((Only.of_below RF B5.out).trans ho (fun k hk => Or.inl hk))
    have HK := Lib.hid hk
    have HF := Lib.hid hf
    clear hk hf ho KP q0 q2 BQ5 BR5
    have q0 := BQ6.out.cell 0
    have q1 := BQ6.out.cell 1
    have q2 := BQ6.out.cell 2
    have q3 := BQ6.out.cell 3
    have q4 := BQ6.out.cell 4
    have s0 := BR6.out.cell 0
    have t0 := BR6.out.free 0
    have s1 := BR6.out.cell 1
    have t1 := BR6.out.free 1
    have s2 := BR6.out.cell 2
    have t2 := BR6.out.free 2
    have s3 := BR6.out.cell 3
    have t3 := BR6.out.free 3
    have s4 := BR6.out.cell 4
    have t4 := BR6.out.free 4
    have lS := BR6.out.lt
    go_wp2
    refine bodyPost_ret (v := .tuple #[.agg #[.int .i64 ri, .string rh, .string P, .int .i64 rr, .int .i64 rt], .bool true]) (by simp [results, Tryz.results17, go_sem, s0, s1, s2, s3, s4]) rfl ⟨rfl, S', HK.out, HF.out.only (R2 := fun k => k = rb) (((((Only.refl (fun k => k = rb) w6).setCell (p := ⟨rb, 0, none⟩) (Or.inl rfl) _).setCell (p := ⟨rb, 1, none⟩) (Or.inl rfl) _).setCell (p := ⟨rb, 2, none⟩) (Or.inl rfl) _).setCell (p := ⟨rb, 3, none⟩) (Or.inl rfl) _ |>.setCell (p := ⟨rb, 4, none⟩) (Or.inl rfl) _) (fun k hk e => NE.out.2.1 (e ▸ hk)), ?_⟩
    have hle : w.heap.size ≤ rb := NE.out.2.2.2.1
    exact (((((ON.out.setCell (p := ⟨rb, 0, none⟩) (Or.inr hle) _).setCell (p := ⟨rb, 1, none⟩) (Or.inr hle) _).setCell (p := ⟨rb, 2, none⟩) (Or.inr hle) _).setCell (p := ⟨rb, 3, none⟩) (Or.inr hle) _).setCell (p := ⟨rb, 4, none⟩) (Or.inr hle) _)
end
end Go.Proofs.YtimkgaokcldgkaaGreatDoor
/- Package front: Has. -/
namespace Go.Proofs.YtimkgaokcldgkaaGreatDoor
open Go Go.RowKit Go.Maps
set_option linter.unusedVariables false
set_option linter.unusedSimpArgs false
set_option maxRecDepth 10000

def hasP (F : Ft) (g : Lg) (x : Int) (p : ByteArray) : Bool := (F.R x).any fun r => (pathF F g r.id).toList == p.toList
section
variable {w w' : World} {RF RD RL : Nat → Prop} {f L N d : Nat} {F : Ft} {g : Lg} {qm hm pm : Nat} {S : List (Int × Nat)} {A : Int → Option Addr} {C : Int → Nat}
theorem FtC.allQ (h : FtC w RF f L N F qm hm pm S A C) (x : Int) (n : Nat) (hn : (F.R x).length = n) (hn2 : n ≤ 999999) : Calls Tryz.prog 36 #[.pointer ((gA S x).map fun q => ⟨q, 0, none⟩)] w fun e w' => ∃ a2 c2, e = .returned (.slice a2 n c2) ∧ RdQu w' a2 (F.R x) ∧ Below w.heap.size w w' := by
  cases hg : gA S x with
  | none =>
    have he := h.emp x hg
    rw [he] at hn ⊢
    obtain rfl : n = 0 := by rw [← hn]; rfl
    refine (all_nil w).mono ?_
    rintro e w1 ⟨rfl, rfl⟩
    exact ⟨none, 0, rfl, fun k r hk => by simp at hk, Below.refl _ _⟩
  | some q =>
    refine (all_at (h.each x q hg) n hn hn2).mono ?_
    rintro e w1 ⟨a2, c2, rfl, ho, hb⟩
    exact ⟨a2, c2, rfl, ho.rdQ, hb⟩
set_option maxHeartbeats 2000000 in
theorem fhas_at (h : FtM w RF f L N F) (hl : LgM w RD RL d L g) (x : Int) (hx : okI x) (p : ByteArray) (hN : N ≤ 900000) : Calls Tryz.prog 21 #[.pointer (some ⟨f, 0, none⟩), .int .i64 x, .string p] w fun e w' => e = .returned (.bool (hasP F g x p)) ∧ Below w.heap.size w w' := by
  obtain ⟨qm, hm, pm, S, A, C, hc⟩ := h.mm
  have HC := Lib.hid hc
  have H := Lib.hid h
  have HL := Lib.hid hl
  obtain ⟨n, hn⟩ : ∃ n, (F.R x).length = n := ⟨_, rfl⟩
  have hn2 : n ≤ 900000 := by rw [← hn]; exact Nat.le_trans (hc.rl x) hN
  have AQ := Lib.hid (hc.allQ x n hn (by omega))
  have lk := hc.lookQ x hx
  obtain ⟨qp, hqp⟩ : ∃ p, ((gA S x).map fun q => (⟨q, 0, none⟩ : Addr)) = p := ⟨_, rfl⟩
  rw [hqp] at AQ lk
  obtain ⟨l, hl2⟩ : ∃ l, F.R x = l := ⟨_, rfl⟩
  rw [hl2] at AQ hn
  have HLn := Lib.hid hn
  have HOK : Hid (∀ z ∈ l, okI z.id) := Lib.hid (fun z hz => hc.okh ((h.ok.ids z.id x).2 ⟨z, by rw [hl2]; exact hz, rfl⟩))
  obtain ⟨b, hb⟩ : ∃ b, hasP F g x p = b := ⟨_, rfl⟩
  have HB : Hid ((l.any fun r => (pathF F g r.id).toList == p.toList) = b) := Lib.hid (by rw [← hb, ← hl2]; rfl)
  rw [hb]
  have c3 : w.cell? ⟨f, 3, none⟩ = some (.map (some qm)) := hc.box.cell 3
  clear hqp hc h hl hn hl2 hb hx
  go_enter Tryz.func21, Tryz.ntmps21
  go_wp2_with fail
  refine AQ.out.mono ?_
  rintro e w1 ⟨a2, c2, rfl, hr, hb1⟩
  have B1 := Lib.hid hb1
  have RQ := Lib.hid hr
  clear hb1 hr AQ lk c3
  go_wp2
  go_loopw [19] (fun j wr => ∃ k : Nat, k ≤ n ∧ j = .int .i64 (k : Int) ∧ Hid (Below w1.heap.size w1 wr) ∧ Hid (∀ i z, i < k → l[i]? = some z → ((pathF F g z.id).toList == p.toList) = false)) (fun j _ => n - (vI j).toNat)
  case atStart => exact ⟨0, by omega, rfl, Lib.hid (Below.refl _ _), Lib.hid (fun i z hi => by omega)⟩
  case round =>
    obtain ⟨k, hk, rfl, BR, HP⟩ := hrel
    by_cases hlt : k < n
    · have hkd : decide ((k : Int) < (n : Int)) = true := decide_eq_true (by omega)
      obtain ⟨z, hz⟩ : ∃ z, l[k]? = some z := ⟨_, List.getElem?_eq_getElem (by rw [HLn.out]; exact hlt)⟩
      obtain ⟨r, hr, c⟩ := RQ.out k z hz
      subst hr
      have cl := c.later BR.out
      have HO := Lib.hid (HOK.out z (List.mem_of_getElem? hz))
      obtain ⟨zi, zh, zp, zr, zt⟩ := z
      have c0 := cl.c0
      have c1 := cl.c1
      have c2 := cl.c2
      have c3 := cl.c3
      have c4 := cl.c4
      have hx0 : (0 : Int) ≤ (k : Int) := by omega
      have hx1 : (k : Int) < (n : Int) := by omega
      have hwk : IntKind.i64.wrap ((k : Int) + 1) = (k : Int) + 1 := IntWalk.i64_in _ (by omega)
      have HZ := Lib.hid hz
      dsimp only at c0 c1 c2 c3 c4 HO
      clear c cl hz
      go_upto_region 6 with fail
      refine code_forget (fun W => Hid (Box W wr.heap.size #[.int .i64 zi, .string zh, .string zp, .int .i64 zr, .int .i64 zt] 35) ∧ Hid (Below wr.heap.size wr W)) ⟨Lib.hid (Box.new wr _ _), Lib.hid ((Below.refl wr.heap.size wr).alloc (Nat.le_refl _) _)⟩ ?_
      rintro w2 ⟨BX, B2'⟩
      have B2 := Lib.hid (BR.out.trans (B2'.out.mono BR.out.size))
      have B2w := Lib.hid (B1.out.trans (B2.out.mono B1.out.size))
      have PT := Lib.hid (fpath_at (H.out.later B2w.out) (HL.out.later B2w.out) zi HO.out)
      obtain ⟨P, hP⟩ : ∃ P, pathF F g zi = P := ⟨_, rfl⟩
      rw [hP] at PT
      have HPP := Lib.hid hP
      have x0 := BX.out.cell 0
      clear hP B2' c0 c1 c2 c3 c4
      go_wp2_with fail
      refine PT.out.mono ?_
      rintro e w3 ⟨rfl, hb3⟩
      have B3 := Lib.hid (B2.out.trans (hb3.mono B2.out.size))
      clear hb3 PT x0 BX
      obtain ⟨q, hq⟩ : ∃ q, (P.toList == p.toList) = q := ⟨_, rfl⟩
      have HQ := Lib.hid hq
      cases q with
      | true =>
        go_wp2
        go_ret
        obtain rfl : true = b := by rw [← HB.out]; exact (List.any_eq_true.2 ⟨_, List.mem_of_getElem? HZ.out, by rw [HPP.out]; exact HQ.out⟩).symm
        exact ⟨rfl, B1.out.trans (B3.out.mono B1.out.size)⟩
      | false =>
        go_wp2
        go_roundw
        case rel => exact ⟨k + 1, by omega, by simp, B3, Lib.hid (fun i y hi hy => by
          by_cases h : i = k
          · subst h
            rw [HZ.out] at hy
            injection hy with hy
            rw [← hy, HPP.out, HQ.out]
          · exact HP.out i y (by omega) hy)⟩
        case measure =>
          simp only [vI]
          omega
    · have hkd : decide ((k : Int) < (n : Int)) = false := decide_eq_false (by omega)
      go_wp2
      go_ret
      suffices e : false = b by
        subst e
        exact ⟨rfl, B1.out.trans (BR.out.mono B1.out.size)⟩
      rw [← HB.out]
      symm
      apply Bool.eq_false_iff.2
      intro h
      obtain ⟨z, hz, hpz⟩ := List.any_eq_true.1 h
      obtain ⟨i, hi, e⟩ := List.getElem_of_mem hz
      have := HP.out i z (by rw [HLn.out] at hi; omega) (by rw [List.getElem?_eq_getElem hi, e])
      rw [this] at hpz
      cases hpz
end
end Go.Proofs.YtimkgaokcldgkaaGreatDoor
/- Package front: Drop. -/
namespace Go.Proofs.YtimkgaokcldgkaaGreatDoor
open Go Go.RowKit Go.Maps
set_option linter.unusedVariables false
set_option linter.unusedSimpArgs false
set_option maxRecDepth 10000

section
variable {w w' : World} {RF RD RL : Nat → Prop} {f L N d : Nat} {F : Ft} {g : Lg} {qm hm pm : Nat} {S : List (Int × Nat)} {A : Int → Option Addr} {C : Int → Nat}
theorem FtC.qNew (h : FtC w RF f L N F qm hm pm S A C) {x : Int} {q : Nat} {a' : Option Addr} (hx : gA S x = some q) (ht : TurnQ q (A x) w a' w') : ∀ k, RF k ∨ a' = some ⟨k, 0, none⟩ → RF k ∨ w.heap.size ≤ k := fun k hk => by
  rcases hk with hk | hk
  · exact Or.inl hk
  · rcases ht.2 k hk with e | e
    · exact Or.inl (h.mine x q k hx (Or.inr e))
    · exact Or.inr e
def FDropP (RF : Nat → Prop) (f L N : Nat) (F : Ft) (id : Int) (w : World) (e : Ending) (w' : World) : Prop :=
  match gA F.hs id with
  | none => e = .returned (.bool false) ∧ w' = w
  | some x => e = .returned (.bool true) ∧ AftF RF f L N w (drpF F x id) w'
set_option maxHeartbeats 2000000 in
theorem fdrop_at (h : FtM w RF f L N F) (id : Int) (hid : okI id) (hN : N ≤ 900000) : Calls Tryz.prog 16 #[.pointer (some ⟨f, 0, none⟩), .int .i64 id] w (FDropP RF f L N F id w) := by
  have HT := Lib.hid (fhost_at h id hid)
  unfold FDropP
  cases hg : gA F.hs id with
  | none =>
    rw [hg] at HT
    have HT : Hid (Calls Tryz.prog 14 #[.pointer (some ⟨f, 0, none⟩), .int .i64 id] w fun e w' => e = .returned (.tuple #[.int .i64 0, .bool false]) ∧ w' = w) := HT
    dsimp only
    clear h hg hid
    go_enter Tryz.func16, Tryz.ntmps16
    go_wp2_with fail
    refine HT.out.mono ?_
    rintro e w1 ⟨rfl, hw⟩
    subst w1
    clear HT
    go_wp2
    go_ret
    exact ⟨rfl, rfl⟩
  | some x =>
    rw [hg] at HT
    have HT : Hid (Calls Tryz.prog 14 #[.pointer (some ⟨f, 0, none⟩), .int .i64 id] w fun e w' => e = .returned (.tuple #[.int .i64 x, .bool true]) ∧ w' = w) := HT
    dsimp only
    obtain ⟨qm, hm, pm, S, A, C, hc⟩ := h.mm
    have HC := Lib.hid hc
    have OK2 := Lib.hid (h.ok.drp hg)
    have HI := Lib.hid hid
    obtain ⟨z, hz, hze⟩ := (h.ok.ids id x).1 hg
    have hx : okI x := by
      obtain ⟨q, hq⟩ : ∃ q, gA S x = some q := by
        cases hq : gA S x with
        | none => rw [hc.emp x hq] at hz; cases hz
        | some q => exact ⟨q, rfl⟩
      obtain ⟨y, hy, e⟩ := List.mem_map.1 (gA_keys.2 (by rw [hq]; rfl : (gA S x).isSome = true))
      rw [← e]
      exact hc.qs.kk y hy
    have lk := hc.lookQ x hx
    obtain ⟨q, hq⟩ : ∃ q, gA S x = some q := by
      cases hq : gA S x with
      | none => rw [hc.emp x hq] at hz; cases hz
      | some q => exact ⟨q, rfl⟩
    rw [hq] at lk
    replace lk : (Instr.lookup 71 (.map (some qm)) (.int .i64 x) false).run Tryz.prog w = .ok (.pointer (some ⟨q, 0, none⟩)) w := lk
    have HQ := Lib.hid hq
    have HX := Lib.hid hx
    have DR := Lib.hid (qdrop_at (hc.each x q hq) _ rfl (Nat.le_trans (hc.rl x) (by omega)) (Nat.zero_le _) id)
    obtain ⟨bb, hbb⟩ : ∃ b, (F.R x).any (idB id) = b := ⟨_, rfl⟩
    rw [hbb] at DR
    have c3 : w.cell? ⟨f, 3, none⟩ = some (.map (some qm)) := hc.box.cell 3
    obtain ⟨rs', hrs⟩ : ∃ l, ((F.R x).filter fun y => !idB id y) = l := ⟨_, rfl⟩
    rw [hrs] at DR
    have HRS := Lib.hid hrs
    have hrl : rs'.length ≤ N := by rw [← hrs]; exact Nat.le_trans (List.length_filter_le _ _) (hc.rl x)
    have HRL := Lib.hid hrl
    clear h hc hg hid hz hze hq hx hbb hrs hrl
    go_enter Tryz.func16, Tryz.ntmps16
    go_wp2_with fail
    refine HT.out.mono ?_
    rintro e w1 ⟨rfl, hw⟩
    subst w1
    clear HT
    go_wp2_with fail
    refine DR.out.mono ?_
    rintro e w1 ⟨rfl, a', c', hqm, ht⟩
    obtain ⟨hf1, ho1⟩ := HC.out.qTurn HQ.out hqm ht HRL.out
    have NW := Lib.hid (HC.out.qNew HQ.out ht)
    have H1 := Lib.hid hf1
    have O1 := Lib.hid ho1
    have LN := Lib.hid (len_at hqm)
    obtain ⟨m, hm0⟩ : ∃ m, rs'.length = m := ⟨_, rfl⟩
    rw [hm0] at LN
    have HM := Lib.hid hm0
    clear hqm ht hf1 ho1 DR lk c3 hm0
    go_wp2_with fail
    refine LN.out.mono ?_
    rintro e wz ⟨rfl, hw⟩
    subst wz
    clear LN
    obtain ⟨b, hb⟩ : ∃ b, ((m : Int) == 0) = b := ⟨_, rfl⟩
    have HB := Lib.hid hb
    go_upto_if 27 with fail
    clear hb
    go_cut [] (fun wx => ∃ (S1 : List (Int × Nat)), Hid (FtC wx (fun k => RF k ∨ a' = some ⟨k, 0, none⟩) f L N ⟨F.per, F.mem, setR F.R x rs', F.hs, F.ps⟩ qm hm pm S1 (upd A x a') (upd C x c')) ∧ Hid (Only RF w wx))
    case first =>
      cases b with
      | true =>
        have e3 : w1.cell? ⟨f, 3, none⟩ = some (.map (some qm)) := H1.out.box.cell 3
        obtain ⟨w5, hrun5, hT5, ht5⟩ := H1.out.qs.drop tyQ x HX.out 0
        have HR0 : Hid (setR F.R x rs' x = []) := Lib.hid (by
          have h9 := HB.out
          rw [beq_iff_eq] at h9
          have h8 := HM.out
          rw [show setR F.R x rs' x = rs' from if_pos rfl]
          exact List.eq_nil_of_length_eq_zero (by omega))
        have H5 := Lib.hid (H1.out.qsDel HR0.out ht5 hT5)
        have O5 := Lib.hid (O1.out.trans (turned_only (R := RF) ht5 HC.out.mq) (fun k hk => Or.inl hk))
        clear hT5 ht5
        go_wp2
        go_meet
        exact ⟨_, H5, O5⟩
      | false =>
        go_wp2
        go_meet
        exact ⟨_, H1, O1⟩
    case rest =>
      obtain ⟨S1, H2, O2⟩ := hcut
      obtain ⟨w2, hw2⟩ : ∃ W, wc = W := ⟨_, rfl⟩
      rw [hw2] at H2 O2 ⊢
      clear hw2 H1 O1
      have e4 : w2.cell? ⟨f, 4, none⟩ = some (.map (some hm)) := H2.out.box.cell 4
      obtain ⟨w3, hrun3, hT3, ht3⟩ := H2.out.hs.drop tyH id HI.out 0
      have H3 := Lib.hid (H2.out.hsU ht3 hT3 (Nat.le_trans (len_dA _ _) H2.out.hl))
      have O3 := Lib.hid (O2.out.trans (turned_only (R := RF) ht3 HC.out.mh) (fun k hk => Or.inl hk))
      have e5 : w3.cell? ⟨f, 5, none⟩ = some (.map (some pm)) := H3.out.box.cell 5
      obtain ⟨w4, hrun4, hT4, ht4⟩ := H3.out.ps.drop tyX id HI.out 0
      have H4 := Lib.hid (H3.out.psU ht4 hT4 (Nat.le_trans (len_dA _ _) H3.out.pl))
      have O4 := Lib.hid (O3.out.trans (turned_only (R := RF) ht4 HC.out.mp) (fun k hk => Or.inl hk))
      have HD : Hid (AftF RF f L N w (drpF F x id) w4) := Lib.hid ⟨_, ⟨⟨qm, hm, pm, S1, _, _, by
        have h9 := H4.out
        rw [← HRS.out] at h9
        exact h9⟩, OK2.out⟩, O4.out, NW.out⟩
      clear hT3 ht3 hT4 ht4 H2 H3 H4
      go_wp2
      go_ret
      exact ⟨rfl, HD.out⟩
end
end Go.Proofs.YtimkgaokcldgkaaGreatDoor
/- Package front: insert. Written by gen_ins.py. -/
namespace Go.Proofs.YtimkgaokcldgkaaGreatDoor
open Go Go.RowKit Go.Maps
set_option linter.unusedVariables false
set_option linter.unusedSimpArgs false
set_option maxRecDepth 10000

theorem qnil_eq (o : Option Addr) (W : World) : (binOp .eql 86 (.pointer o) (.pointer none)).run Tryz.prog W = .ok (.bool o.isNone) W := by
  cases o with
  | none => kernel_rfl
  | some a => kernel_rfl
theorem hnil_eq (m : Nat) (W : World) : (binOp .eql 72 (.map (some m)) (.map none)).run Tryz.prog W = .ok (.bool false) W := by kernel_rfl
set_option maxHeartbeats 4000000 in
theorem finsert_at {w : World} {RF : Nat → Prop} {f L N : Nat} {F : Ft} (h : FtM w RF f L N F) (x : Int) (hx : okI x) (r : Rq) (hr : okI r.id) (hn : gA F.hs r.id = none) (hN : N ≤ 900000) :
    Calls Tryz.prog 30 #[.pointer (some ⟨f, 0, none⟩), .int .i64 x, .agg (rqA r)] w fun e w' => e = .returned (.tuple #[]) ∧ AftF RF f L (N + 1) w (insF F x r) w' := by
  obtain ⟨qm, hm, pm, S, A, C, hc⟩ := h.mm
  have OK := Lib.hid (h.ok.ins x r hn)
  have HC := Lib.hid hc
  have HX := Lib.hid hx
  have HR := Lib.hid hr
  have FO : Hid ((F.R x).any (idB r.id) = false) := Lib.hid (by
    rw [List.any_eq_false]
    intro y hy
    have h9 := h.ok.no hn x y hy
    show ¬ (y.id == r.id) = true
    simpa using h9)
  have SR := Lib.hid (h.ok.srt x)
  have IF : Hid (insF F x r = ⟨F.per, F.mem, setR F.R x (insQ (F.R x) (noP r)), pA F.hs r.id x, if (F.ps.length : Int) < F.mem then pA F.ps r.id r.path else F.ps⟩) := Lib.hid rfl
  obtain ⟨FI, hFI⟩ : ∃ G, insF F x r = G := ⟨_, rfl⟩
  rw [hFI] at OK IF ⊢
  clear h hc hx hr hn hFI
  obtain ⟨ri, rh, rp, rr, rt⟩ := r
  show Calls Tryz.prog 30 #[.pointer (some ⟨f, 0, none⟩), .int .i64 x, .agg #[.int .i64 ri, .string rh, .string rp, .int .i64 rr, .int .i64 rt]] w _
  dsimp only at HR FO IF
  have RB := Lib.hid (Box.new w #[.int .i64 ri, .string rh, .string rp, .int .i64 rr, .int .i64 rt] 35)
  have B0 := Lib.hid ((Below.refl w.heap.size w).alloc (Nat.le_refl _) (.cells #[.int .i64 ri, .string rh, .string rp, .int .i64 rr, .int .i64 rt] 35))
  go_enter Tryz.func30, Tryz.ntmps30
  go_upto_region 1 with fail
  refine code_forget (fun W => Hid (Box W w.heap.size #[.int .i64 ri, .string rh, .string rp, .int .i64 rr, .int .i64 rt] 35) ∧ Hid (Below w.heap.size w W)) ⟨RB, B0⟩ ?_
  obtain ⟨rb, hrb⟩ : ∃ p, w.heap.size = p := ⟨_, rfl⟩
  have HRB := Lib.hid hrb
  rw [hrb]
  rintro w1 ⟨BR1, B1⟩
  rw [← HRB.out] at B1
  clear hrb RB B0
  have NE : Hid (¬ RF rb ∧ w.heap.size ≤ rb) := Lib.hid ⟨fun e => by have := HC.out.lt rb e; have := HRB.out; omega, by have := HRB.out; omega⟩
  have H1 := Lib.hid (HC.out.later B1.out)
  have eh := hnil_eq hm
  have eq := qnil_eq
  have c3 : w1.cell? ⟨f, 3, none⟩ = some (.map (some qm)) := H1.out.box.cell 3
  have c4 : w1.cell? ⟨f, 4, none⟩ = some (.map (some hm)) := H1.out.box.cell 4
  have lk := H1.out.lookQ x HX.out
  obtain ⟨qo, hqo⟩ : ∃ p, ((gA S x).map fun q => (⟨q, 0, none⟩ : Addr)) = p := ⟨_, rfl⟩
  rw [hqo] at lk
  obtain ⟨b, hb⟩ : ∃ b, qo.isNone = b := ⟨_, rfl⟩
  have eq1 := eq qo
  rw [hb] at eq1
  have HB := Lib.hid hb
  have HQO := Lib.hid hqo
  clear eq hb hqo
  have NQ : Hid (∀ W, Calls Tryz.prog 52 #[.int .i64 F.per] W fun e w' => ∃ q, e = .returned (.pointer (some ⟨q, 0, none⟩)) ∧ Hid (Qm w' 0 q none 0 [] F.per ∧ Below W.heap.size W w' ∧ W.heap.size ≤ q)) := Lib.hid (fun W => (new_at F.per W 0 (Nat.zero_le _)).mono fun e w' ⟨h1, h2, h3⟩ => ⟨_, h1, Lib.hid ⟨h2, h3, Nat.le_refl _⟩⟩)
  go_upto_if 34 with fail
  clear c3 c4 lk eq1 eh
  go_cut [] (fun wx => ∃ (S1 : List (Int × Nat)) (A1 : Int → Option Addr) (C1 : Int → Nat) (q : Nat) (R1 : Nat → Prop), Hid (FtC wx R1 f L (N + 1) F qm hm pm S1 A1 C1) ∧ Hid (Box wx rb #[.int .i64 ri, .string rh, .string rp, .int .i64 rr, .int .i64 rt] 35) ∧ Hid (gA S1 x = some q) ∧ Hid (∀ k, R1 k → RF k ∨ rb < k) ∧ Hid (Only RF w wx))
  case first =>
    cases b with
    | false =>
      have HG : Hid (∃ q, gA S x = some q) := Lib.hid (by
        cases hg : gA S x with
        | none => have h9 := HQO.out; rw [hg] at h9; have h8 := HB.out; rw [← h9] at h8; cases h8
        | some q => exact ⟨q, rfl⟩)
      obtain ⟨q, hq⟩ := HG.out
      have HQ := Lib.hid hq
      have ON := Lib.hid (Only.of_below RF B1.out)
      have HM1 := Lib.hid (H1.out.mono (Nat.le_succ N))
      clear hq
      go_wp2
      go_meet
      exact ⟨_, _, _, q, _, HM1, BR1, HQ, Lib.hid (fun k hk => Or.inl hk), ON⟩
    | true =>
      have HG : Hid (gA S x = none) := Lib.hid (by
        cases hg : gA S x with
        | none => rfl
        | some q => have h9 := HQO.out; rw [hg] at h9; have h8 := HB.out; rw [← h9] at h8; cases h8)
      go_upto_region 4 with fail
      refine wp_region_last 10 (fun w' => FtC w' (RF) f L N F qm hm pm S A C ∧ Box w' rb #[.int .i64 ri, .string rh, .string rp, .int .i64 rr, .int .i64 rt] 35 ∧ Below w1.heap.size w1 w') (by kernel_rfl) (⟨(H1.out.later (Below.refl _ _).drew), BR1.out.drew, (Below.refl _ w1).drew⟩) (fun hHeld hClosed => ?_)
      refine wtk (i := 0) (v := ?_) rfl hClosed (Or.inl ⟨by rfl, ?_⟩) hHeld (fun hClosed => ?_)
      rotate_left
      · intro wv hSw; go_simp; all_goals (with_reducible rfl)
      (try simp only [List.getElem_toArray, List.getElem_cons_zero, put_at, List.set])
      refine wtk (i := 1) (v := ?_) rfl hClosed (Or.inl ⟨by rfl, ?_⟩) hHeld (fun hClosed => ?_)
      rotate_left
      · intro wv hSw; go_simp; all_goals (with_reducible rfl)
      (try simp only [List.getElem_toArray, List.getElem_cons_succ, List.getElem_cons_zero, put_at, List.set])
      refine wtk (i := 2) (v := ?_) rfl hClosed (Or.inl ⟨by rfl, ?_⟩) hHeld (fun hClosed => ?_)
      rotate_left
      · intro wv hSw; go_simp; all_goals (with_reducible rfl)
      (try simp only [List.getElem_toArray, List.getElem_cons_succ, List.getElem_cons_zero, put_at, List.set])
      refine wtk (i := 3) (v := ?_) rfl hClosed (Or.inl ⟨by rfl, ?_⟩) hHeld (fun hClosed => ?_)
      rotate_left
      · intro wv hSw; have c0 : wv.cell? ⟨f, 0, none⟩ = some (.int .i64 F.per) := hSw.1.box.cell 0; have c3 : wv.cell? ⟨f, 3, none⟩ = some (.map (some qm)) := hSw.1.box.cell 3; go_simp; all_goals (with_reducible rfl)
      (try simp only [List.getElem_toArray, List.getElem_cons_succ, List.getElem_cons_zero, put_at, List.set])
      refine wtk (i := 4) (v := ?_) rfl hClosed (Or.inl ⟨by rfl, ?_⟩) hHeld (fun hClosed => ?_)
      rotate_left
      · intro wv hSw; go_simp; all_goals (with_reducible rfl)
      (try simp only [List.getElem_toArray, List.getElem_cons_succ, List.getElem_cons_zero, put_at, List.set])
      refine wtk (i := 5) (v := ?_) rfl hClosed (Or.inl ⟨by rfl, ?_⟩) hHeld (fun hClosed => ?_)
      rotate_left
      · intro wv hSw; go_simp; all_goals (with_reducible rfl)
      (try simp only [List.getElem_toArray, List.getElem_cons_succ, List.getElem_cons_zero, put_at, List.set])
      refine wtk (i := 6) (v := ?_) rfl hClosed (Or.inl ⟨by rfl, ?_⟩) hHeld (fun hClosed => ?_)
      rotate_left
      · intro wv hSw; go_simp; all_goals (with_reducible rfl)
      (try simp only [List.getElem_toArray, List.getElem_cons_succ, List.getElem_cons_zero, put_at, List.set])
      refine wtk (i := 7) (v := ?_) rfl hClosed (Or.inl ⟨by rfl, ?_⟩) hHeld (fun hClosed => ?_)
      rotate_left
      · intro wv hSw; go_simp; all_goals (with_reducible rfl)
      (try simp only [List.getElem_toArray, List.getElem_cons_succ, List.getElem_cons_zero, put_at, List.set])
      refine wtk (i := 8) (v := ?_) rfl hClosed (Or.inl ⟨by rfl, ?_⟩) hHeld (fun hClosed => ?_)
      rotate_left
      · intro wv hSw; have c0 : wv.cell? ⟨f, 0, none⟩ = some (.int .i64 F.per) := hSw.1.box.cell 0; have c3 : wv.cell? ⟨f, 3, none⟩ = some (.map (some qm)) := hSw.1.box.cell 3; go_simp; all_goals (with_reducible rfl)
      (try simp only [List.getElem_toArray, List.getElem_cons_succ, List.getElem_cons_zero, put_at, List.set])
      refine wpAnyL_one (i := 9) rfl (by kernel_rfl) (by kernel_rfl) hClosed (fun KK hK => ?_)
      go_simp
      refine (NQ.out _).mono ?_
      rintro e wq ⟨q, rfl, HQN⟩
      go_wp2_with fail
      refine hK.out _ _ ?_ (fun hClosed hHeld => ?_)
      · exact ⟨hHeld.1.later HQN.out.2.1, hHeld.2.1.later HQN.out.2.1, hHeld.2.2.trans (HQN.out.2.1.mono hHeld.2.2.size)⟩
      clear hK KK
      (first | simp only [List.getElem_toArray, List.getElem_cons_succ, List.getElem_cons_zero, put_at, List.set] | (try simp only [put_at, List.set]))
      refine wpAnyL_last rfl (by kernel_rfl) (by kernel_rfl) (fun KK hK => ?_)
      obtain ⟨w5, hrun5, hT5, ht5⟩ := hHeld.1.qs.store tyQ x HX.out q (by have := hHeld.1.sl; omega)
      unfold qV at hrun5
      go_simp
      refine hK.out _ _ ?_
      (try simp only [put_at, List.set])
      have FN := Lib.hid (hHeld.1.qsNew HG.out HQN.out.1 (fun e => by have h8 := H1.out.lt q e; have h9 := HQN.out.2.2; have h10 : w1.heap.size = w1.drew.heap.size := rfl; omega) ht5 hT5)
      have BR5 : Hid (Box w5 rb #[.int .i64 ri, .string rh, .string rp, .int .i64 rr, .int .i64 rt] 35) := Lib.hid ((turned_blk ht5 hHeld.2.1.lt (fun e => am_not_box hHeld.1.qs hHeld.2.1 e.symm)).trans hHeld.2.1)
      have O5 := Lib.hid (((Only.of_below RF B1.out).later hHeld.2.2).trans (turned_only (R := RF) ht5 H1.out.mq) (fun k hk => Or.inl hk))
      have NW5 : Hid (∀ k, RF k ∨ k = q → RF k ∨ rb < k) := Lib.hid (fun k hk => by rcases hk with hk | hk; exact Or.inl hk; (right; have h9 := HQN.out.2.2; have h10 : w1.heap.size = w1.drew.heap.size := rfl; have := BR1.out.lt; omega))
      clear hT5 ht5 hHeld hClosed HQN
      go_wp2_with fail
      go_meet
      exact ⟨_, _, _, q, _, FN, BR5, Lib.hid (by rw [gA_put, if_pos rfl]), NW5, O5⟩
  case rest =>
    obtain ⟨S1, A1, C1, q, R1, H2, BR2, HQ1, NW2, O2⟩ := hcut
    obtain ⟨w2, hw2⟩ : ∃ W, wc = W := ⟨_, rfl⟩
    rw [hw2] at H2 BR2 O2 ⊢
    clear hw2 H1 BR1 B1 NQ HB HQO
    go_upto_region 5 with fail
    refine wp_region_last 7 (fun w' => FtC w' (R1) f L (N + 1) F qm hm pm S1 A1 C1 ∧ Box w' rb #[.int .i64 ri, .string rh, .string rp, .int .i64 rr, .int .i64 rt] 35 ∧ Below w2.heap.size w2 w') (by kernel_rfl) (⟨(H2.out.later (Below.refl _ _).drew), BR2.out.drew, (Below.refl _ w2).drew⟩) (fun hHeld hClosed => ?_)
    refine wtk (i := 0) (v := ?_) rfl hClosed (Or.inl ⟨by rfl, ?_⟩) hHeld (fun hClosed => ?_)
    rotate_left
    · intro wv hSw; go_simp; all_goals (with_reducible rfl)
    (try simp only [List.getElem_toArray, List.getElem_cons_zero, put_at, List.set])
    refine wtk (i := 1) (v := ?_) rfl hClosed (Or.inl ⟨by rfl, ?_⟩) hHeld (fun hClosed => ?_)
    rotate_left
    · intro wv hSw; go_simp; all_goals (with_reducible rfl)
    (try simp only [List.getElem_toArray, List.getElem_cons_succ, List.getElem_cons_zero, put_at, List.set])
    refine wtk (i := 2) (v := ?_) rfl hClosed (Or.inl ⟨by rfl, ?_⟩) hHeld (fun hClosed => ?_)
    rotate_left
    · intro wv hSw; go_simp; all_goals (with_reducible rfl)
    (try simp only [List.getElem_toArray, List.getElem_cons_succ, List.getElem_cons_zero, put_at, List.set])
    refine wtk (i := 3) (v := ?_) rfl hClosed (Or.inl ⟨by rfl, ?_⟩) hHeld (fun hClosed => ?_)
    rotate_left
    · intro wv hSw; have c4 : wv.cell? ⟨f, 4, none⟩ = some (.map (some hm)) := hSw.1.box.cell 4; have r0 : wv.cell? ⟨rb, 0, none⟩ = some (.int .i64 ri) := hSw.2.1.cell 0; have r1 : wv.cell? ⟨rb, 1, none⟩ = some (.string rh) := hSw.2.1.cell 1; have r2 : wv.cell? ⟨rb, 2, none⟩ = some (.string rp) := hSw.2.1.cell 2; have r3 : wv.cell? ⟨rb, 3, none⟩ = some (.int .i64 rr) := hSw.2.1.cell 3; have r4 : wv.cell? ⟨rb, 4, none⟩ = some (.int .i64 rt) := hSw.2.1.cell 4; go_simp; all_goals (with_reducible rfl)
    (try simp only [List.getElem_toArray, List.getElem_cons_succ, List.getElem_cons_zero, put_at, List.set])
    refine wtk (i := 4) (v := ?_) rfl hClosed (Or.inl ⟨by rfl, ?_⟩) hHeld (fun hClosed => ?_)
    rotate_left
    · intro wv hSw; go_simp; all_goals (with_reducible rfl)
    (try simp only [List.getElem_toArray, List.getElem_cons_succ, List.getElem_cons_zero, put_at, List.set])
    refine wtk (i := 5) (v := ?_) rfl hClosed (Or.inl ⟨by rfl, ?_⟩) hHeld (fun hClosed => ?_)
    rotate_left
    · intro wv hSw; have c4 : wv.cell? ⟨f, 4, none⟩ = some (.map (some hm)) := hSw.1.box.cell 4; have r0 : wv.cell? ⟨rb, 0, none⟩ = some (.int .i64 ri) := hSw.2.1.cell 0; have r1 : wv.cell? ⟨rb, 1, none⟩ = some (.string rh) := hSw.2.1.cell 1; have r2 : wv.cell? ⟨rb, 2, none⟩ = some (.string rp) := hSw.2.1.cell 2; have r3 : wv.cell? ⟨rb, 3, none⟩ = some (.int .i64 rr) := hSw.2.1.cell 3; have r4 : wv.cell? ⟨rb, 4, none⟩ = some (.int .i64 rt) := hSw.2.1.cell 4; go_simp; all_goals (with_reducible rfl)
    (try simp only [List.getElem_toArray, List.getElem_cons_succ, List.getElem_cons_zero, put_at, List.set])
    refine wtk (i := 6) (v := ?_) rfl hClosed (Or.inl ⟨by rfl, ?_⟩) hHeld (fun hClosed => ?_)
    rotate_left
    · intro wv hSw; go_simp; all_goals (with_reducible rfl)
    (try simp only [List.getElem_toArray, List.getElem_cons_succ, List.getElem_cons_zero, put_at, List.set])
    refine wpAnyL_last rfl (by kernel_rfl) (by kernel_rfl) (fun KK hK => ?_)
    obtain ⟨w5, hrun5, hT5, ht5⟩ := hHeld.1.hs.store tyH ri HR.out x (by have := hHeld.1.hl; omega)
    go_simp
    refine hK.out _ _ ?_
    (try simp only [put_at, List.set])
    have H3 := Lib.hid (hHeld.1.hsU ht5 hT5 (by have := len_pA_le F.hs ri x; have := HC.out.hl; omega))
    have BR3 : Hid (Box w5 rb #[.int .i64 ri, .string rh, .string rp, .int .i64 rr, .int .i64 rt] 35) := Lib.hid ((turned_blk ht5 hHeld.2.1.lt (fun e => am_not_box hHeld.1.hs hHeld.2.1 e.symm)).trans hHeld.2.1)
    have O3 := Lib.hid ((O2.out.later hHeld.2.2).trans (turned_only (R := RF) ht5 HC.out.mh) (fun k hk => Or.inl hk))
    clear hT5 ht5 hHeld hClosed hrun5
    go_upto_region 6 with fail
    have d5 : w5.cell? ⟨f, 5, none⟩ = some (.map (some pm)) := H3.out.box.cell 5
    have d1 : w5.cell? ⟨f, 1, none⟩ = some (.int .i64 F.mem) := H3.out.box.cell 1
    have ML : ∀ k ty, (Builtin.len_ #[73] ty #[.map (some pm)]).run Tryz.prog (w5.drewN k) = .ok (.int .i64 (F.ps.length : Int)) (w5.drewN k) := fun k ty => (H3.out.ps.block (w' := w5.drewN k) rfl).len tyX ty
    obtain ⟨b, hb⟩ : ∃ b, decide ((F.ps.length : Int) < F.mem) = b := ⟨_, rfl⟩
    have HQ := Lib.hid hb
    go_cut [61] (fun v wx => v = .bool b ∧ Hid (Below w5.heap.size w5 wx))
    case first =>
      go_quiet (fail)
      go_wp2
      go_meet
      first
      | exact ⟨rfl, Lib.hid (dk_drewN (Below.refl _ _) nq)⟩
      | exact ⟨by rw [hb], Lib.hid (dk_drewN (Below.refl _ _) nq)⟩
    case rest =>
    obtain ⟨rfl, BC⟩ := hcut
    clear d5 d1 ML hb
    have H3 := Lib.hid (H3.out.later BC.out)
    have BR3 := Lib.hid (BR3.out.later BC.out)
    have O3 := Lib.hid (O3.out.later BC.out)
    obtain ⟨w5, hw5⟩ : ∃ W, wc = W := ⟨_, rfl⟩
    rw [hw5] at H3 BR3 O3 ⊢
    clear hw5 BC
    go_upto_if 61 with fail
    go_cut [] (fun wx => ∃ (T : List (Int × ByteArray)), Hid (FtC wx R1 f L (N + 1) ⟨F.per, F.mem, F.R, pA F.hs ri x, T⟩ qm hm pm S1 A1 C1) ∧ Hid (Box wx rb #[.int .i64 ri, .string rh, .string rp, .int .i64 rr, .int .i64 rt] 35) ∧ Hid (Only RF w wx) ∧ Hid (T = if (F.ps.length : Int) < F.mem then pA F.ps ri rp else F.ps))
    case first =>
      cases b with
      | false =>
        go_wp2
        go_meet
        exact ⟨_, H3, BR3, O3, Lib.hid (if_neg (of_decide_eq_false HQ.out)).symm⟩
      | true =>
        go_upto_region 7 with fail
        refine wp_region_last 9 (fun w' => FtC w' (R1) f L (N + 1) ⟨F.per, F.mem, F.R, pA F.hs ri x, F.ps⟩ qm hm pm S1 A1 C1 ∧ Box w' rb #[.int .i64 ri, .string rh, .string rp, .int .i64 rr, .int .i64 rt] 35 ∧ Below w5.heap.size w5 w') (by kernel_rfl) (⟨(H3.out.later (Below.refl _ _).drew), BR3.out.drew, (Below.refl _ w5).drew⟩) (fun hHeld hClosed => ?_)
        refine wtk (i := 0) (v := ?_) rfl hClosed (Or.inl ⟨by rfl, ?_⟩) hHeld (fun hClosed => ?_)
        rotate_left
        · intro wv hSw; go_simp; all_goals (with_reducible rfl)
        (try simp only [List.getElem_toArray, List.getElem_cons_zero, put_at, List.set])
        refine wtk (i := 1) (v := ?_) rfl hClosed (Or.inl ⟨by rfl, ?_⟩) hHeld (fun hClosed => ?_)
        rotate_left
        · intro wv hSw; go_simp; all_goals (with_reducible rfl)
        (try simp only [List.getElem_toArray, List.getElem_cons_succ, List.getElem_cons_zero, put_at, List.set])
        refine wtk (i := 2) (v := ?_) rfl hClosed (Or.inl ⟨by rfl, ?_⟩) hHeld (fun hClosed => ?_)
        rotate_left
        · intro wv hSw; go_simp; all_goals (with_reducible rfl)
        (try simp only [List.getElem_toArray, List.getElem_cons_succ, List.getElem_cons_zero, put_at, List.set])
        refine wtk (i := 3) (v := ?_) rfl hClosed (Or.inl ⟨by rfl, ?_⟩) hHeld (fun hClosed => ?_)
        rotate_left
        · intro wv hSw; have c5 : wv.cell? ⟨f, 5, none⟩ = some (.map (some pm)) := hSw.1.box.cell 5; have r0 : wv.cell? ⟨rb, 0, none⟩ = some (.int .i64 ri) := hSw.2.1.cell 0; have r1 : wv.cell? ⟨rb, 1, none⟩ = some (.string rh) := hSw.2.1.cell 1; have r2 : wv.cell? ⟨rb, 2, none⟩ = some (.string rp) := hSw.2.1.cell 2; have r3 : wv.cell? ⟨rb, 3, none⟩ = some (.int .i64 rr) := hSw.2.1.cell 3; have r4 : wv.cell? ⟨rb, 4, none⟩ = some (.int .i64 rt) := hSw.2.1.cell 4; go_simp; all_goals (with_reducible rfl)
        (try simp only [List.getElem_toArray, List.getElem_cons_succ, List.getElem_cons_zero, put_at, List.set])
        refine wtk (i := 4) (v := ?_) rfl hClosed (Or.inl ⟨by rfl, ?_⟩) hHeld (fun hClosed => ?_)
        rotate_left
        · intro wv hSw; go_simp; all_goals (with_reducible rfl)
        (try simp only [List.getElem_toArray, List.getElem_cons_succ, List.getElem_cons_zero, put_at, List.set])
        refine wtk (i := 5) (v := ?_) rfl hClosed (Or.inl ⟨by rfl, ?_⟩) hHeld (fun hClosed => ?_)
        rotate_left
        · intro wv hSw; have c5 : wv.cell? ⟨f, 5, none⟩ = some (.map (some pm)) := hSw.1.box.cell 5; have r0 : wv.cell? ⟨rb, 0, none⟩ = some (.int .i64 ri) := hSw.2.1.cell 0; have r1 : wv.cell? ⟨rb, 1, none⟩ = some (.string rh) := hSw.2.1.cell 1; have r2 : wv.cell? ⟨rb, 2, none⟩ = some (.string rp) := hSw.2.1.cell 2; have r3 : wv.cell? ⟨rb, 3, none⟩ = some (.int .i64 rr) := hSw.2.1.cell 3; have r4 : wv.cell? ⟨rb, 4, none⟩ = some (.int .i64 rt) := hSw.2.1.cell 4; go_simp; all_goals (with_reducible rfl)
        (try simp only [List.getElem_toArray, List.getElem_cons_succ, List.getElem_cons_zero, put_at, List.set])
        refine wtk (i := 6) (v := ?_) rfl hClosed (Or.inl ⟨by rfl, ?_⟩) hHeld (fun hClosed => ?_)
        rotate_left
        · intro wv hSw; go_simp; all_goals (with_reducible rfl)
        (try simp only [List.getElem_toArray, List.getElem_cons_succ, List.getElem_cons_zero, put_at, List.set])
        refine wtk (i := 7) (v := ?_) rfl hClosed (Or.inl ⟨by rfl, ?_⟩) hHeld (fun hClosed => ?_)
        rotate_left
        · intro wv hSw; have c5 : wv.cell? ⟨f, 5, none⟩ = some (.map (some pm)) := hSw.1.box.cell 5; have r0 : wv.cell? ⟨rb, 0, none⟩ = some (.int .i64 ri) := hSw.2.1.cell 0; have r1 : wv.cell? ⟨rb, 1, none⟩ = some (.string rh) := hSw.2.1.cell 1; have r2 : wv.cell? ⟨rb, 2, none⟩ = some (.string rp) := hSw.2.1.cell 2; have r3 : wv.cell? ⟨rb, 3, none⟩ = some (.int .i64 rr) := hSw.2.1.cell 3; have r4 : wv.cell? ⟨rb, 4, none⟩ = some (.int .i64 rt) := hSw.2.1.cell 4; go_simp; all_goals (with_reducible rfl)
        (try simp only [List.getElem_toArray, List.getElem_cons_succ, List.getElem_cons_zero, put_at, List.set])
        refine wtk (i := 8) (v := ?_) rfl hClosed (Or.inl ⟨by rfl, ?_⟩) hHeld (fun hClosed => ?_)
        rotate_left
        · intro wv hSw; go_simp; all_goals (with_reducible rfl)
        (try simp only [List.getElem_toArray, List.getElem_cons_succ, List.getElem_cons_zero, put_at, List.set])
        refine wpAnyL_last rfl (by kernel_rfl) (by kernel_rfl) (fun KK hK => ?_)
        obtain ⟨w6, hrun6, hT6, ht6⟩ := hHeld.1.ps.store tyX ri HR.out rp (by have := HC.out.pl; show F.ps.length ≤ _; omega)
        have hrun6 : (Instr.mapUpdate 73 (.map (some pm)) (.int .i64 ri) (.agg #[.string rp])).run Tryz.prog _ = .ok () w6 := hrun6
        go_simp
        refine hK.out _ _ ?_
        (try simp only [put_at, List.set])
        have H4 := Lib.hid (hHeld.1.psU ht6 hT6 (by have := len_pA_le F.ps ri rp; have := HC.out.pl; show (pA F.ps ri rp).length ≤ N + 1; omega))
        have BR4 : Hid (Box w6 rb #[.int .i64 ri, .string rh, .string rp, .int .i64 rr, .int .i64 rt] 35) := Lib.hid ((turned_blk ht6 hHeld.2.1.lt (fun e => am_not_box hHeld.1.ps hHeld.2.1 e.symm)).trans hHeld.2.1)
        have O4 := Lib.hid ((O3.out.later hHeld.2.2).trans (turned_only (R := RF) ht6 HC.out.mp) (fun k hk => Or.inl hk))
        clear hT6 ht6 hHeld hClosed
        go_wp2_with fail
        go_meet
        exact ⟨_, H4, BR4, O4, Lib.hid (if_pos (of_decide_eq_true HQ.out)).symm⟩
    case rest =>
      obtain ⟨T, H4, BR4, O4, HT⟩ := hcut
      obtain ⟨w6, hw6⟩ : ∃ W, wc = W := ⟨_, rfl⟩
      rw [hw6] at H4 BR4 O4 ⊢
      clear hw6 H3 BR3 O3 H2 BR2 O2 HQ
      have NE2 : Hid (¬ R1 rb) := Lib.hid (fun e => by
        rcases NW2.out rb e with e | e
        · exact NE.out.1 e
        · omega)
      have q2 := BR4.out.cell 2
      have z2 := BR4.out.free 2
      have lb := BR4.out.lt
      go_upto_region 9 with fail
      refine code_forget (fun W => Hid (FtC W R1 f L (N + 1) ⟨F.per, F.mem, F.R, pA F.hs ri x, T⟩ qm hm pm S1 A1 C1) ∧ Hid (Box W rb #[.int .i64 ri, .string rh, .string ⟨#[]⟩, .int .i64 rr, .int .i64 rt] 35) ∧ Hid (Only RF w W)) ⟨Lib.hid (H4.out.keep (by simp [World.setCell]) (fun k hk => Below.heap_setCell _ _ _ k (fun e => NE2.out (by have e : k = rb := e; rw [← e]; exact hk)))), Lib.hid (BR4.out.set 2 (.string ⟨#[]⟩)), Lib.hid (O4.out.setCell (p := ⟨rb, 2, none⟩) (Or.inr NE.out.2) _)⟩ ?_
      rintro w7 ⟨H7, BR7, O7⟩
      clear q2 z2 lb H4 BR4 O4
      have H8 := Lib.hid (H7.out.later (Below.refl _ w7).drew)
      have c3 : w7.drew.cell? ⟨f, 3, none⟩ = some (.map (some qm)) := H8.out.box.cell 3
      have lk := H8.out.lookQ x HX.out
      rw [HQ1.out] at lk
      replace lk : (Instr.lookup 71 (.map (some qm)) (.int .i64 x) false).run Tryz.prog w7.drew = .ok (.pointer (some ⟨q, 0, none⟩)) w7.drew := lk
      have BR8 := Lib.hid BR7.out.drew
      have q0 := BR8.out.cell 0
      have q1 := BR8.out.cell 1
      have q2 := BR8.out.cell 2
      have q3 := BR8.out.cell 3
      have q4 := BR8.out.cell 4
      have BK := Lib.hid (back_at (H8.out.each x q HQ1.out) SR.out _ rfl (Nat.le_trans (HC.out.rl x) (by omega)) (Nat.zero_le _) ⟨ri, rh, ⟨#[]⟩, rr, rt⟩)
      have BK : Hid (Calls Tryz.prog 53 #[.pointer (some ⟨q, 0, none⟩), .agg #[.int .i64 ri, .string rh, .string ⟨#[]⟩, .int .i64 rr, .int .i64 rt]] w7.drew (BackP 0 q (A1 x) (F.R x) F.per ⟨ri, rh, ⟨#[]⟩, rr, rt⟩ w7.drew)) := BK
      have O8 := Lib.hid (O7.out.later (Below.refl _ w7).drew)
      go_still_tail 7, (by kernel_rfl)
      change wpList _ _ _ _ _ w7.drew
      generalize w7.drew = w8 at H8 c3 lk BR8 q0 q1 q2 q3 q4 BK O8 ⊢
      go_wp2_with fail
      refine BK.out.mono ?_
      rintro e w9 hbk
      rcases hbk with ⟨hany, _⟩ | ⟨_, rfl, a', c', hq9, ht9⟩
      · rw [FO.out] at hany; cases hany
      have FIN : Hid (AftF RF f L (N + 1) w FI w9) := Lib.hid (by
        obtain ⟨hf9, ho9⟩ := H8.out.qTurn HQ1.out hq9 ht9 (by rw [insQ_len]; have := HC.out.rl x; omega)
        rw [IF.out]
        refine ⟨fun k => R1 k ∨ a' = some ⟨k, 0, none⟩, ⟨⟨qm, hm, pm, S1, upd A1 x a', upd C1 x c', ?_⟩, ?_⟩, ⟨?_, ?_⟩⟩
        · rw [← HT.out]
          exact hf9
        · rw [← IF.out]; exact OK.out
        · exact O8.out.trans ho9 (fun k hk => by
            rcases NW2.out k hk with e | e
            · exact Or.inl e
            · right; have := HRB.out; omega)
        · intro k hk
          rcases H8.out.qNew HQ1.out ht9 k hk with e | e
          · rcases NW2.out k e with e | e
            · exact Or.inl e
            · right; have := HRB.out; omega
          · right
            have := O8.out.size
            omega)
      clear hq9 ht9 BK
      go_wp2
      exact bodyPost_end (v := .tuple #[]) (by simp [results, Tryz.results30, go_sem]) rfl ⟨rfl, FIN.out⟩
end Go.Proofs.YtimkgaokcldgkaaGreatDoor
/- Package front: Add, Back. -/
namespace Go.Proofs.YtimkgaokcldgkaaGreatDoor
open Go Go.RowKit Go.Maps
set_option linter.unusedVariables false
set_option linter.unusedSimpArgs false
set_option maxRecDepth 10000

def AddP (RF : Nat → Prop) (f L N : Nat) (F : Ft) (x : Int) (r : Rq) (w : World) (e : Ending) (w' : World) : Prop :=
  ((gA F.hs r.id).isSome = true ∧ e = .returned (.int .i64 10) ∧ Below w.heap.size w w') ∨
  (gA F.hs r.id = none ∧ F.per ≤ ((F.R x).length : Int) ∧ e = .returned (.int .i64 5) ∧ Below w.heap.size w w') ∨
  (gA F.hs r.id = none ∧ ¬ F.per ≤ ((F.R x).length : Int) ∧ e = .returned (.int .i64 0) ∧ AftF RF f L (N + 1) w (insF F x r) w')
def FBackP (RF : Nat → Prop) (f L N : Nat) (F : Ft) (x : Int) (r : Rq) (w : World) (e : Ending) (w' : World) : Prop :=
  ((gA F.hs r.id).isSome = true ∧ e = .returned (.tuple #[]) ∧ Below w.heap.size w w') ∨
  (gA F.hs r.id = none ∧ e = .returned (.tuple #[]) ∧ AftF RF f L (N + 1) w (insF F x r) w')
theorem AftF.from_ {w w1 w' : World} {RF : Nat → Prop} {f L N : Nat} {F' : Ft} (h : AftF RF f L N w1 F' w') (hb : Below w.heap.size w w1) : AftF RF f L N w F' w' := by
  obtain ⟨R2, h1, h2⟩ := h
  refine ⟨R2, h1, (Only.of_below RF hb).trans h2.only (fun k hk => Or.inl hk), fun k hk => ?_⟩
  rcases h2.new k hk with e | e
  · exact Or.inl e
  · exact Or.inr (Nat.le_trans hb.size e)
section
variable {w : World} {RF : Nat → Prop} {f L N : Nat} {F : Ft}
set_option maxHeartbeats 2000000 in
theorem fback_at (h : FtM w RF f L N F) (x : Int) (hx : okI x) (r : Rq) (hr : okI r.id) (hN : N ≤ 900000) : Calls Tryz.prog 11 #[.pointer (some ⟨f, 0, none⟩), .int .i64 x, .agg (rqA r)] w (FBackP RF f L N F x r w) := by
  obtain ⟨qm, hm, pm, S, A, C, hc⟩ := h.mm
  have H := Lib.hid h
  have HC := Lib.hid hc
  have IN : Hid (∀ W, Below w.heap.size w W → gA F.hs r.id = none → Calls Tryz.prog 30 #[.pointer (some ⟨f, 0, none⟩), .int .i64 x, .agg (rqA r)] W fun e w' => e = .returned (.tuple #[]) ∧ AftF RF f L (N + 1) w (insF F x r) w') := Lib.hid (fun W hW hn => (finsert_at (h.later hW) x hx r hr hn hN).mono fun e w' ⟨h1, h2⟩ => ⟨h1, h2.from_ hW⟩)
  have LK : Hid (∀ W, Below w.heap.size w W → (Instr.lookup 72 (.map (some hm)) (.int .i64 r.id) true).run Tryz.prog W = .ok (.tuple #[.int .i64 ((gA F.hs r.id).getD 0), .bool (gA F.hs r.id).isSome]) W) := Lib.hid (fun W hW => by rw [(hc.later hW).hs.look_ok tyH r.id hr, getD_map])
  unfold FBackP
  obtain ⟨G, hG⟩ : ∃ G, insF F x r = G := ⟨_, rfl⟩
  rw [hG] at IN ⊢
  obtain ⟨o, ho⟩ : ∃ o, gA F.hs r.id = o := ⟨_, rfl⟩
  rw [ho] at IN LK ⊢
  obtain ⟨ri, rh, rp, rr, rt⟩ := r
  unfold rqA at IN ⊢
  dsimp only at IN LK ⊢
  obtain ⟨v, hv⟩ : ∃ v, o.getD 0 = v := ⟨_, rfl⟩
  rw [hv] at LK
  have RB := Lib.hid (Box.new w #[.int .i64 ri, .string rh, .string rp, .int .i64 rr, .int .i64 rt] 35)
  have B0 := Lib.hid ((Below.refl w.heap.size w).alloc (Nat.le_refl _) (.cells #[.int .i64 ri, .string rh, .string rp, .int .i64 rr, .int .i64 rt] 35))
  clear h hc hG ho hx hr hv
  go_enter Tryz.func11, Tryz.ntmps11
  go_upto_region 2 with fail
  refine code_forget (fun W => Hid (Box W w.heap.size #[.int .i64 ri, .string rh, .string rp, .int .i64 rr, .int .i64 rt] 35) ∧ Hid (Below w.heap.size w W)) ⟨RB, B0⟩ ?_
  obtain ⟨rb, hrb⟩ : ∃ p, w.heap.size = p := ⟨_, rfl⟩
  have HRB := Lib.hid hrb
  rw [hrb]
  rintro w1 ⟨BR1, B1⟩
  rw [← HRB.out] at B1
  clear hrb RB B0
  have c4 : w1.cell? ⟨f, 4, none⟩ = some (.map (some hm)) := (HC.out.box.later B1.out).cell 4
  have r0 := BR1.out.cell 0
  have lk := fun k => LK.out (w1.drewN k) (dk_drewN B1.out k)
  go_quiet (fail)
  have BR2 := Lib.hid (BR1.out.drewN nq)
  have B2 := Lib.hid (dk_drewN B1.out nq)
  obtain ⟨w2, hw2⟩ : ∃ W, w1.drewN nq = W := ⟨_, rfl⟩
  rw [hw2] at BR2 B2
  rw [hw2]
  clear hw2 lk c4 r0 BR1 B1 LK
  cases o with
  | some k =>
    go_wp2
    exact bodyPost_ret (v := .tuple #[]) (by simp [results, Tryz.results11, go_sem]) rfl (by first | exact Or.inl ⟨rfl, rfl, B2.out⟩ | exact ⟨rfl, B2.out⟩)
  | none =>
    have r0 := BR2.out.cell 0
    have r1 := BR2.out.cell 1
    have r2 := BR2.out.cell 2
    have r3 := BR2.out.cell 3
    have r4 := BR2.out.cell 4
    have IC := Lib.hid (IN.out w2 B2.out rfl)
    go_wp2_with fail
    refine IC.out.mono ?_
    rintro e w3 ⟨rfl, hf⟩
    have HF := Lib.hid hf
    clear hf IC IN
    go_wp2
    exact bodyPost_end (v := .tuple #[]) (by simp [results, Tryz.results11, go_sem]) rfl (by first | exact Or.inr ⟨rfl, rfl, HF.out⟩ | exact ⟨rfl, HF.out⟩)
set_option maxHeartbeats 2000000 in
theorem fadd_at (h : FtM w RF f L N F) (x : Int) (hx : okI x) (r : Rq) (hr : okI r.id) (hN : N ≤ 900000) : Calls Tryz.prog 10 #[.pointer (some ⟨f, 0, none⟩), .int .i64 x, .agg (rqA r)] w (AddP RF f L N F x r w) := by
  obtain ⟨qm, hm, pm, S, A, C, hc⟩ := h.mm
  have H := Lib.hid h
  have HC := Lib.hid hc
  have IN : Hid (∀ W, Below w.heap.size w W → gA F.hs r.id = none → Calls Tryz.prog 30 #[.pointer (some ⟨f, 0, none⟩), .int .i64 x, .agg (rqA r)] W fun e w' => e = .returned (.tuple #[]) ∧ AftF RF f L (N + 1) w (insF F x r) w') := Lib.hid (fun W hW hn => (finsert_at (h.later hW) x hx r hr hn hN).mono fun e w' ⟨h1, h2⟩ => ⟨h1, h2.from_ hW⟩)
  have LK : Hid (∀ W, Below w.heap.size w W → (Instr.lookup 72 (.map (some hm)) (.int .i64 r.id) true).run Tryz.prog W = .ok (.tuple #[.int .i64 ((gA F.hs r.id).getD 0), .bool (gA F.hs r.id).isSome]) W) := Lib.hid (fun W hW => by rw [(hc.later hW).hs.look_ok tyH r.id hr, getD_map])
  obtain ⟨M, hM⟩ : ∃ M, (F.R x).length = M := ⟨_, rfl⟩
  have LN : Hid (∀ W, Below w.heap.size w W → Calls Tryz.prog 18 #[.pointer (some ⟨f, 0, none⟩), .int .i64 x] W fun e w' => e = .returned (.int .i64 (M : Int)) ∧ w' = W) := Lib.hid (fun W hW => flen_at (h.later hW) x hx M hM)
  unfold AddP
  rw [hM]
  obtain ⟨G, hG⟩ : ∃ G, insF F x r = G := ⟨_, rfl⟩
  rw [hG] at IN ⊢
  obtain ⟨o, ho⟩ : ∃ o, gA F.hs r.id = o := ⟨_, rfl⟩
  rw [ho] at IN LK ⊢
  obtain ⟨pe, hpe⟩ : ∃ p, F.per = p := ⟨_, rfl⟩
  have c0w : w.cell? ⟨f, 0, none⟩ = some (.int .i64 pe) := by rw [← hpe]; exact hc.box.cell 0
  rw [hpe]
  obtain ⟨ri, rh, rp, rr, rt⟩ := r
  unfold rqA at IN ⊢
  dsimp only at IN LK ⊢
  obtain ⟨v, hv⟩ : ∃ v, o.getD 0 = v := ⟨_, rfl⟩
  rw [hv] at LK
  have RB := Lib.hid (Box.new w #[.int .i64 ri, .string rh, .string rp, .int .i64 rr, .int .i64 rt] 35)
  have B0 := Lib.hid ((Below.refl w.heap.size w).alloc (Nat.le_refl _) (.cells #[.int .i64 ri, .string rh, .string rp, .int .i64 rr, .int .i64 rt] 35))
  have C0 := Lib.hid c0w
  have CK : Hid (∀ W, Below w.heap.size w W → W.cell? ⟨f, 0, none⟩ = some (.int .i64 pe)) := Lib.hid (fun W hW => (hW.cell (World.block_lt_of_cell? _ _ c0w)).trans c0w)
  clear h hc hG ho hx hr hv hM hpe c0w
  go_enter Tryz.func10, Tryz.ntmps10
  go_upto_region 3 with fail
  refine code_forget (fun W => Hid (Box W w.heap.size #[.int .i64 ri, .string rh, .string rp, .int .i64 rr, .int .i64 rt] 35) ∧ Hid (Below w.heap.size w W)) ⟨RB, B0⟩ ?_
  obtain ⟨rb, hrb⟩ : ∃ p, w.heap.size = p := ⟨_, rfl⟩
  have HRB := Lib.hid hrb
  rw [hrb]
  rintro w1 ⟨BR1, B1⟩
  rw [← HRB.out] at B1
  clear hrb RB B0
  have c4 : w1.cell? ⟨f, 4, none⟩ = some (.map (some hm)) := (HC.out.box.later B1.out).cell 4
  have r0 := BR1.out.cell 0
  have lk := fun k => LK.out (w1.drewN k) (dk_drewN B1.out k)
  go_quiet (fail)
  have BR2 := Lib.hid (BR1.out.drewN nq)
  have B2 := Lib.hid (dk_drewN B1.out nq)
  obtain ⟨w2, hw2⟩ : ∃ W, w1.drewN nq = W := ⟨_, rfl⟩
  rw [hw2] at BR2 B2
  rw [hw2]
  clear hw2 lk c4 r0 BR1 B1 LK
  cases o with
  | some k =>
    go_wp2
    go_ret
    first
    | exact Or.inl ⟨rfl, rfl, B2.out⟩
    | exact ⟨rfl, B2.out⟩
  | none =>
    go_upto_region 6 with fail
    have c0 := CK.out w2 B2.out
    have LL := fun k => Lib.hid (LN.out (w2.drewN k) (dk_drewN B2.out k))
    obtain ⟨b, hb⟩ : ∃ b, decide (pe ≤ (M : Int)) = b := ⟨_, rfl⟩
    have HB := Lib.hid hb
    go_quiet ((go_at_call 18; exact Calls.quiet_of_same ((LL _).out)))
    have BR3 := Lib.hid (BR2.out.drewN nq)
    have B3 := Lib.hid (dk_drewN B2.out nq)
    obtain ⟨w3, hw3⟩ : ∃ W, w2.drewN nq = W := ⟨_, rfl⟩
    rw [hw3] at BR3 B3
    rw [hw3]
    clear hw3 LL LN c0 BR2 B2 CK C0
    cases b with
    | true =>
      go_wp2
      go_ret
      first
      | exact Or.inr (Or.inl ⟨rfl, of_decide_eq_true HB.out, rfl, B3.out⟩)
      | exact Or.inl ⟨of_decide_eq_true HB.out, rfl, B3.out⟩
    | false =>
      have r0 := BR3.out.cell 0
      have r1 := BR3.out.cell 1
      have r2 := BR3.out.cell 2
      have r3 := BR3.out.cell 3
      have r4 := BR3.out.cell 4
      have IC := Lib.hid (IN.out w3 B3.out rfl)
      go_wp2_with fail
      refine IC.out.mono ?_
      rintro e w4 ⟨rfl, hf⟩
      have HF := Lib.hid hf
      clear hf IC IN
      go_wp2
      go_ret
      first
      | exact Or.inr (Or.inr ⟨rfl, of_decide_eq_false HB.out, rfl, HF.out⟩)
      | exact Or.inr ⟨by have := of_decide_eq_false HB.out; omega, rfl, HF.out⟩
end
end Go.Proofs.YtimkgaokcldgkaaGreatDoor
