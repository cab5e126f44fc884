/- FeedWhole: what any whole answer says. -/
import Derived.Test.YtodibjpojfipoaaGreatDoorFeRlm
import Derived.Test.YtodibjpojfipoaaGreatDoorFeRtr
import Derived.Test.YtodibjpojfipoaaGreatDoorFeMost
namespace Go.Proofs.YtodibjpojfipoaaGreatDoor
open Go Go.RowKit
set_option linter.unusedVariables false
set_option linter.unusedSimpArgs false
set_option maxRecDepth 10000

theorem trL_idem (l : List Int) : trL (trL l) = trL l := by
  have h1 : ∀ l : List Int, rdw (rdw l) = rdw l := fun l => by
    rw [rdw_rev (rdw l), rdw_rev l, List.reverse_reverse]
    congr 1
    generalize l.reverse = r
    induction r with
    | nil => rfl
    | cons c t ih =>
      rw [List.dropWhile_cons]
      split
      · exact ih
      · rename_i h
        rw [List.dropWhile_cons, if_neg h]
  have h2 : ∀ l : List Int, (l.dropWhile blI).dropWhile blI = l.dropWhile blI := fun r => by
    induction r with
    | nil => rfl
    | cons c t ih =>
      rw [List.dropWhile_cons]
      split
      · exact ih
      · rename_i h
        rw [List.dropWhile_cons, if_neg h]
  unfold trL
  have h3 : rdw ((rdw l).dropWhile blI) = (rdw l).dropWhile blI := by
    have := trL_comm l
    unfold trL at this
    rw [this, h1]
  rw [h3, h2]
set_option maxHeartbeats 4000000 in
theorem feedWhole_walk (st : Int) (x : Option Addr × Nat × Nat) (now : Int) (w : World) (_w0 : (Lit.int .i64 st).wf = true) (hx : IsHdrs w x) (_w2 : (Lit.int .i64 now).wf = true) (hT : TabD w) :
    Calls Tryz.prog 6 #[.int .i64 st, .slice x.1 x.2.1 x.2.2, .int .i64 now] w fun e w' => e = .returned (.bool true) ∧ Below w.heap.size w w' := by
  obtain ⟨sa, n, c⟩ := x
  obtain ⟨hs, hl, _, hb, hz, g, off, hsa, hat⟩ := hx
  dsimp only at hl hb hsa ⊢
  subst hl
  have SM := Lib.hid (fsmall_at sa g off c hs hb hz w hat hsa)
  have AW := Lib.hid (fun (W : World) (hW : Below w.heap.size w W) => fawake_at W (hT.later hW))
  obtain ⟨Y, hY⟩ := YearIs.some_ (nowD (capI now / 1000)) (nowD_bd _).1 (nowD_bd _).2
  have hat' : ∀ (W : World), Below w.heap.size w W → hs ≠ [] → HdAt W g off hs := fun W hW h => ⟨Nat.lt_of_lt_of_le (hat h).lt hW.size, fun i x hx => (hW.cell (hat h).lt).trans ((hat h).nm i x hx), fun i x hx => (hW.cell (hat h).lt).trans ((hat h).vl i x hx)⟩
  obtain ⟨q, hq⟩ : ∃ q, decide (bulkH hs < 3000) = q := ⟨_, rfl⟩
  rw [hq] at SM
  obtain ⟨C, hC⟩ : ∃ C, classI st = C := ⟨_, rfl⟩
  obtain ⟨R, hR⟩ : ∃ R, (retO Y now hs).getD 0 = R := ⟨_, rfl⟩
  obtain ⟨S, hS⟩ : ∃ S, (resO now hs).getD 0 = S := ⟨_, rfl⟩
  have P : Hid (q = true → ∀ (W : World), Below w.heap.size w W → Calls Tryz.prog 15 #[.int .i64 st, .slice sa hs.length c, .int .i64 now] W fun e w' => e = .returned (.agg #[.int .i64 C, .int .i64 R, .int .i64 S]) ∧ Below W.heap.size W w') := Lib.hid (fun hq' W hW => by
    rw [hq'] at hq
    have hf := of_decide_eq_true hq
    obtain ⟨f1, f2⟩ := bulkH_few hs
    have := ffrom_at st sa g off c hs (by omega) (fun x hx => by have := f2 x hx; omega) now Y hY W (hT.later hW) (hat' W hW) hsa
    rw [hC, hR, hS] at this
    exact this)
  have Q : Hid (q = true → ∀ (W : World), Below w.heap.size w W → Calls Tryz.prog 9 #[.int .i64 st, .slice sa hs.length c, .int .i64 now] W fun e w' => e = .returned (.agg #[.int .i64 C, .int .i64 R, .int .i64 S]) ∧ Below W.heap.size W w') := Lib.hid (fun hq' W hW => by
    rw [hq'] at hq
    have hf := of_decide_eq_true hq
    obtain ⟨f1, f2⟩ := bulkH_few hs
    have hz1 : ∀ x ∈ hs, x.1.size ≤ 1000000 ∧ x.2.size ≤ 1000000 := fun x hx => by have := f2 x hx; omega
    have := rfrom_at st sa g off c hs (by omega) hz1 now Y W (hat' W hW) hsa (fun W' hW' => rreset7_at sa g off c hs (by omega) hz1 now W' (hat' W' (hW.trans (hW'.mono hW.size))) hsa)
      (fun _ W' hW' => rretry_at (valH kRa hs) (valH_size kRa hs hz1) now Y hY W')
    rw [hC, hR, hS] at this
    exact this)
  obtain ⟨N, hN⟩ : ∃ N, hs.length = N := ⟨_, rfl⟩
  rw [hN] at SM P Q ⊢
  clear hN hq hC hR hS hY hat hat' hsa hb hz hT _w0 _w2
  have EQ : ∀ W, (binOp .eql 25 (.agg #[.int .i64 C, .int .i64 R, .int .i64 S]) (.agg #[.int .i64 C, .int .i64 R, .int .i64 S])).run Tryz.prog W = .ok (.bool true) W := fun W => by rw [fbk_eq]; simp
  go_enter Tryz.func6, Tryz.ntmps6
  go_wp2_with fail
  refine SM.out.mono ?_
  rintro e w1 ⟨rfl, hb⟩
  have HB1 := Lib.hid hb
  clear hb SM
  cases q with
  | false =>
    go_wp2_with fail
    refine (AW.out _ HB1.out).mono ?_
    rintro e w2 ⟨rfl, hb⟩
    have HB2 := Lib.hid (HB1.out.trans (hb.mono HB1.out.size))
    clear hb
    go_wp2
    go_ret
    exact ⟨rfl, HB2.out⟩
  | true =>
    go_wp2_with fail
    refine (AW.out _ HB1.out).mono ?_
    rintro e w2 ⟨rfl, hb⟩
    have HB2 := Lib.hid (HB1.out.trans (hb.mono HB1.out.size))
    clear hb HB1
    go_wp2_with fail
    refine (P.out (by simp) _ HB2.out).mono ?_
    rintro e w3 ⟨rfl, hb⟩
    have HB3 := Lib.hid (HB2.out.trans (hb.mono HB2.out.size))
    clear hb HB2 P
    go_wp2_with fail
    refine (Q.out (by simp) _ HB3.out).mono ?_
    rintro e w4 ⟨rfl, hb⟩
    have HB4 := Lib.hid (HB3.out.trans (hb.mono HB3.out.size))
    clear hb HB3 Q
    go_wp2
    go_ret
    exact ⟨rfl, HB4.out⟩
end Go.Proofs.YtodibjpojfipoaaGreatDoor
