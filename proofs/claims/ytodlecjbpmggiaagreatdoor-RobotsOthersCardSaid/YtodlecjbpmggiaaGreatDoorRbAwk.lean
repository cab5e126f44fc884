/- Layer 11's fixed fact. -/
import Derived.Test.YtodlecjbpmggiaaGreatDoorRbRd
import Derived.Test.YtodlecjbpmggiaaGreatDoorMtAllow
import Derived.Test.YtodlecjbpmggiaaGreatDoorRbTok
/- Package robots: Allowed. -/
namespace Go.Proofs.YtodlecjbpmggiaaGreatDoor
open Go Go.RowKit
set_option linter.unusedVariables false
set_option linter.unusedSimpArgs false
set_option maxRecDepth 10000

def isRob (path : ByteArray) : Bool := path.toList == [47, 114, 111, 98, 111, 116, 115, 46, 116, 120, 116]
def mayP (all no : Bool) (rs : List Rl) (path : ByteArray) : Prop := isRob path = true ∨ all = true ∨ (no = false ∧ allowP rs (nfB path))
set_option maxHeartbeats 4000000 in
theorem may_at (all no : Bool) (rs : List Rl) (a : Option Addr) (n cap : Nat) (d : Int) (path : ByteArray) (b : Bool) (hb : b = true ↔ mayP all no rs path) (w : World) (hlen : rs.length = n) (hr : RdR w a rs) (hl : n ≤ 1000) (hsz : ∀ r ∈ rs, r.pat.size ≤ 10000) (hps : path.size ≤ 10000) (hT : TabsM w) :
    Calls Tryz.prog 10 #[.agg #[.bool all, .bool no, .slice a n cap, .int .i64 d], .string path] w fun e w' => e = .returned (.bool b) ∧ Below w.heap.size w w' := by
  have AL : Hid (∀ c : Bool, (c = true ↔ allowP rs (nfB path)) → ∀ W, Below w.heap.size w W → Calls Tryz.prog 21 #[.slice a n cap, .string path] W fun e w' => e = .returned (.bool c) ∧ Below W.heap.size W w') := Lib.hid (fun c hc W hW => allowed_at rs a n cap path (nfB path) c rfl hc W hlen (hr.later hW) hl hsz hps (hT.later hW))
  have HB := Lib.hid hb
  have BX := Lib.hid (Box.new w #[.bool all, .bool no, .slice a n cap, .int .i64 d] 26)
  have BB := Lib.hid ((Below.refl w.heap.size w).alloc (Nat.le_refl _) (.cells #[.bool all, .bool no, .slice a n cap, .int .i64 d] 26))
  clear hr hsz hT hlen hb
  go_enter Tryz.func10, Tryz.ntmps10
  go_upto_region 1 with fail
  obtain ⟨w1, hw1⟩ : ∃ W, w.alloc (.cells #[.bool all, .bool no, .slice a n cap, .int .i64 d] 26) = W := ⟨_, rfl⟩
  rw [hw1] at BX BB
  rw [hw1]
  clear hw1
  have c0 := BX.out.cell 0
  have c1 := BX.out.cell 1
  have c2 := BX.out.cell 2
  have lt := BX.out.lt
  obtain ⟨q, hq⟩ : ∃ q : Bool, isRob path = q := ⟨_, rfl⟩
  have HQ := Lib.hid hq
  unfold isRob at hq
  cases q with
  | true =>
    have hbt : b = true := HB.out.2 (Or.inl HQ.out)
    subst hbt
    go_wp2
    go_ret
    exact ⟨rfl, BB.out⟩
  | false =>
    cases all with
    | true =>
      have hbt : b = true := HB.out.2 (Or.inr (Or.inl rfl))
      subst hbt
      go_wp2
      go_ret
      exact ⟨rfl, BB.out⟩
    | false =>
      cases no with
      | true =>
        have hbt : b = false := by
          cases b with
          | false => rfl
          | true =>
            rcases HB.out.1 rfl with h | h | h
            · rw [HQ.out] at h; cases h
            · cases h
            · cases h.1
        subst hbt
        go_wp2
        go_ret
        exact ⟨rfl, BB.out⟩
      | false =>
        have A1 := Lib.hid (AL.out b (HB.out.trans ⟨fun h => by
          rcases h with h | h | h
          · rw [HQ.out] at h; cases h
          · cases h
          · exact h.2, fun h => Or.inr (Or.inr ⟨rfl, h⟩)⟩))
        clear AL HB
        go_wp2_with fail
        refine (A1.out _ BB.out).mono ?_
        rintro e w2 ⟨rfl, hb2⟩
        have B2 := Lib.hid (BB.out.trans (hb2.mono BB.out.size))
        clear hb2
        go_wp2
        go_ret
        exact ⟨rfl, B2.out⟩
theorem allowP_more (rs : List Rl) (x : Rl) (hx : x.allow = true) (p : ByteArray) (h : allowP rs p) : allowP (rs ++ [x]) p := by
  have mem : ∀ q, q ∈ rs ++ [x] ↔ q ∈ rs ∨ q = x := fun q => by simp
  cases hs : spk x p with
  | false =>
    rcases h with ⟨r, h1, h2, h3, h4⟩ | h1
    · exact Or.inl ⟨r, (mem r).2 (Or.inl h1), h2, h3, fun q hq hqs => by
        rcases (mem q).1 hq with hq | rfl
        · exact h4 q hq hqs
        · rw [hs] at hqs; cases hqs⟩
    · exact Or.inr fun r hr => by
        rcases (mem r).1 hr with hr | rfl
        · exact h1 r hr
        · exact hs
  | true =>
    rcases h with ⟨r, h1, h2, h3, h4⟩ | h1
    · by_cases hl : lng x ≤ lng r
      · exact Or.inl ⟨r, (mem r).2 (Or.inl h1), h2, h3, fun q hq hqs => by
          rcases (mem q).1 hq with hq | rfl
          · exact h4 q hq hqs
          · exact hl⟩
      · exact Or.inl ⟨x, (mem x).2 (Or.inr rfl), hx, hs, fun q hq hqs => by
          rcases (mem q).1 hq with hq | rfl
          · have := h4 q hq hqs; omega
          · exact Nat.le_refl _⟩
    · exact Or.inl ⟨x, (mem x).2 (Or.inr rfl), hx, hs, fun q hq hqs => by
        rcases (mem q).1 hq with hq | rfl
        · rw [h1 q hq] at hqs; cases hqs
        · exact Nat.le_refl _⟩
end Go.Proofs.YtodlecjbpmggiaaGreatDoor
/- The document's own Token. -/
namespace Go.Proofs.YtodlecjbpmggiaaGreatDoor
open Go Go.RowKit
set_option linter.unusedVariables false
set_option linter.unusedSimpArgs false
set_option maxRecDepth 10000

set_option maxHeartbeats 4000000 in
theorem rtoken_at (s : ByteArray) (hs : s.size ≤ 1000000000000000) (w : World) :
    Calls Tryz.prog 14 #[.string s] w fun e w' => e = .returned (.string (strL (tokL (btL s)))) ∧ Below w.heap.size w w' := by
  have LO := Lib.hid (fun W => rlower_at s (lowB s) rfl hs W)
  have hsz : (lowB s).size = s.size := by unfold lowB; rw [strL_size, List.length_map, btL_length]
  have HV : Hid (btL (lowB s) = (btL s).map lwI) := Lib.hid (by unfold lowB; exact btL_strL (by
    intro c hc
    obtain ⟨x, hx, rfl⟩ := List.mem_map.1 hc
    have := btL_byts s x hx
    unfold lwI
    split <;> omega))
  obtain ⟨v, hv⟩ : ∃ v, lowB s = v := ⟨_, rfl⟩
  rw [hv] at LO HV hsz
  rw [← hsz] at hs
  clear hv hsz
  have FIN : Hid (∀ i, i ≤ v.size → (∀ j c, j < i → (btL v)[j]? = some c → okS c = true) → (∀ c, (btL v)[i]? = some c → okS c = false) → v.extract 0 i = strL (tokL (btL s))) := Lib.hid (fun i hi h1 h2 => by
    rw [← tok_low, ← HV.out, tokS_take h1 h2, ← strL_btL (v.extract 0 i), ln_extract, List.drop_zero, Nat.sub_zero])
  clear HV
  go_enter Tryz.func14, Tryz.ntmps14
  go_wp2_with fail
  refine (LO.out _).mono ?_
  rintro e w1 ⟨rfl, hb1⟩
  have B1 := Lib.hid hb1
  clear hb1 LO
  go_wp2_with fail
  go_loopw [4] (fun j wr => ∃ i : Nat, i ≤ v.size ∧ j = .int .i64 (i : Int) ∧ wr = w1 ∧ Hid (∀ j c, j < i → (btL v)[j]? = some c → okS c = true)) (fun j _ => v.size - (intOf j).toNat)
  case atStart => exact ⟨0, by omega, rfl, rfl, Lib.hid (fun j c hj => by omega)⟩
  case round =>
    obtain ⟨i, hi, rfl, rfl, HP⟩ := hrel
    by_cases hlt : i < v.size
    · have hkd : decide ((i : Int) < (v.size : Int)) = true := decide_eq_true (by omega)
      have hx0 : (0 : Int) ≤ (i : Int) := by omega
      have hx1 : (i : Int) < (v.size : Int) := by omega
      have hat : (btL v)[i]? = some ((v[i].toNat : Nat) : Int) := ln_at v i hlt
      by_cases hok : okS ((v[i].toNat : Nat) : Int) = true
      · have NX : Hid (∀ j c, j < i + 1 → (btL v)[j]? = some c → okS c = true) := Lib.hid (fun j c hj hc => by
          by_cases h : j = i
          · subst h
            rw [hat] at hc
            injection hc with hc
            rw [← hc]
            exact hok
          · exact HP.out j c (by omega) hc)
        unfold okS at hok
        rw [decide_eq_true_eq] at hok
        clear hat FIN HP
        by_cases h1 : 97 ≤ ((v[i].toNat : Nat) : Int)
        · have d1 : decide (97 ≤ ((v[i].toNat : Nat) : Int)) = true := decide_eq_true h1
          have d2 : decide (((v[i].toNat : Nat) : Int) ≤ 122) = true := decide_eq_true (by omega)
          clear hok h1
          go_wp2
          go_roundw
          case rel => exact ⟨i + 1, by omega, by simp, trivial, NX⟩
          case measure =>
            simp only [intOf]
            omega
        · have d1 : decide (97 ≤ ((v[i].toNat : Nat) : Int)) = false := decide_eq_false h1
          by_cases h2 : ((v[i].toNat : Nat) : Int) = 45
          · have d3 : (((v[i].toNat : Nat) : Int) == 45) = true := beq_iff_eq.2 h2
            clear hok h1 h2
            go_wp2
            go_roundw
            case rel => exact ⟨i + 1, by omega, by simp, trivial, NX⟩
            case measure =>
              simp only [intOf]
              omega
          · have d3 : (((v[i].toNat : Nat) : Int) == 45) = false := beq_eq_false_iff_ne.2 h2
            have d4 : (((v[i].toNat : Nat) : Int) == 95) = true := beq_iff_eq.2 (by omega)
            clear hok h1 h2
            go_wp2
            go_roundw
            case rel => exact ⟨i + 1, by omega, by simp, trivial, NX⟩
            case measure =>
              simp only [intOf]
              omega
      · have HF : Hid (v.extract 0 i = strL (tokL (btL s))) := Lib.hid (FIN.out i hi HP.out (fun c hc => by
          rw [hat] at hc
          injection hc with hc
          rw [← hc]
          simpa using hok))
        unfold okS at hok
        rw [decide_eq_true_eq] at hok
        have d3 : (((v[i].toNat : Nat) : Int) == 45) = false := beq_eq_false_iff_ne.2 (by omega)
        have d4 : (((v[i].toNat : Nat) : Int) == 95) = false := beq_eq_false_iff_ne.2 (by omega)
        clear hat FIN HP
        by_cases h1 : 97 ≤ ((v[i].toNat : Nat) : Int)
        · have d1 : decide (97 ≤ ((v[i].toNat : Nat) : Int)) = true := decide_eq_true h1
          have d2 : decide (((v[i].toNat : Nat) : Int) ≤ 122) = false := decide_eq_false (by omega)
          clear hok h1
          go_wp2
          go_ret
          exact ⟨by rw [HF.out]; rfl, B1.out⟩
        · have d1 : decide (97 ≤ ((v[i].toNat : Nat) : Int)) = false := decide_eq_false h1
          clear hok h1
          go_wp2
          go_ret
          exact ⟨by rw [HF.out]; rfl, B1.out⟩
    · have hkd : decide ((i : Int) < (v.size : Int)) = false := decide_eq_false (by omega)
      obtain rfl : i = v.size := by omega
      go_wp2
      go_ret
      refine ⟨?_, B1.out⟩
      have hf := FIN.out _ (Nat.le_refl _) HP.out (fun c hc => by have := (List.getElem?_eq_some_iff.1 hc).1; rw [btL_length] at this; omega)
      rw [← hf]
      simp
end Go.Proofs.YtodlecjbpmggiaaGreatDoor
namespace Go.Proofs.YtodlecjbpmggiaaGreatDoor
open Go Go.RowKit
set_option linter.unusedVariables false
set_option linter.unusedSimpArgs false
set_option maxRecDepth 100000

instance rbAllow (rs : List Rl) (path : ByteArray) : Decidable (allowP rs path) := by
  unfold allowP
  exact inferInstance
instance rbMay (all no : Bool) (rs : List Rl) (path : ByteArray) : Decidable (mayP all no rs path) := by
  unfold mayP
  exact inferInstance
theorem RdC.rdr {w : World} {a : Option Addr} {rs : List (Bool × List Int)} (h : RdC w a (ruC rs)) : RdR w a (rs.map fun z => ⟨z.1, strL z.2⟩) := by
  have key : ∀ (l : List (Bool × List Int)) i z, l[i]? = some z → (ruC l)[i * 2]? = some (.bool z.1) ∧ (ruC l)[i * 2 + 1]? = some (.string (strL z.2)) := by
    intro l
    induction l with
    | nil => intro i z hz; simp at hz
    | cons y t ih =>
      intro i z hz
      have e : ruC (y :: t) = .bool y.1 :: .string (strL y.2) :: ruC t := by simp [ruC]
      rw [e]
      cases i with
      | zero =>
        simp at hz
        subst hz
        simp
      | succ i =>
        have := ih i z (by simpa using hz)
        rw [show (i + 1) * 2 = i * 2 + 1 + 1 by omega, show i * 2 + 1 + 1 + 1 = (i * 2 + 1) + 1 + 1 by omega]
        simpa using this
  cases rs with
  | nil => exact RdR.nil _ _
  | cons y t =>
    obtain ⟨k1, _⟩ := key (y :: t) 0 y rfl
    obtain ⟨g, hg, _⟩ := h _ _ k1
    refine ⟨g, 0, fun _ => hg, fun i e he => ?_⟩
    rw [List.getElem?_map] at he
    cases hz : (y :: t)[i]? with
    | none => rw [hz] at he; cases he
    | some z =>
      rw [hz] at he
      injection he with he
      subst he
      obtain ⟨k1, k2⟩ := key _ i z hz
      obtain ⟨g1, e1, c1⟩ := h _ _ k1
      obtain ⟨g2, e2, c2⟩ := h _ _ k2
      rw [hg] at e1 e2
      injection e1 with e1
      injection e1 with e1
      injection e2 with e2
      injection e2 with e2
      subst e1
      subst e2
      rw [Nat.zero_add]
      exact ⟨c1, c2⟩
theorem fld0 (v0 v1 v2 v3 : Value) (w : World) : (Instr.field 26 (.agg #[v0, v1, v2, v3]) 0).run Tryz.prog w = .ok v0 w := by
  simp [Instr.field, run_underlying Tryz.underlying26, part, run_isAgg_plain Tryz.underlying4 rfl, asAgg, go_sem]
theorem fld1 (v0 v1 v2 v3 : Value) (w : World) : (Instr.field 26 (.agg #[v0, v1, v2, v3]) 1).run Tryz.prog w = .ok v1 w := by
  simp [Instr.field, run_underlying Tryz.underlying26, part, run_isAgg_plain Tryz.underlying4 rfl, asAgg, go_sem]
def awT1 : ByteArray := ⟨#[117, 115, 101, 114, 45, 97, 103, 101, 110, 116, 58, 32, 42, 10, 100, 105, 115, 97, 108, 108, 111, 119, 58, 32, 47, 10, 117, 115, 101, 114, 45, 97, 103, 101, 110, 116, 58, 32, 66, 111, 116, 10, 99, 114, 97, 119, 108, 45, 100, 101, 108, 97, 121, 58, 32, 51, 10, 97, 108, 108, 111, 119, 58, 32, 47]⟩
def awT2 : ByteArray := ⟨#[117, 115, 101, 114, 45, 97, 103, 101, 110, 116, 58, 32, 42, 10, 100, 105, 115, 97, 108, 108, 111, 119, 58, 32, 47, 97]⟩
theorem aw1 : readL 200 (btL awT1) (btL ⟨#[98, 111, 116, 47, 50, 46, 49]⟩) = ⟨false, false, [(true, [47])], 3000⟩ := by rfl
theorem aw2 : readL 200 (btL awT2) (btL ⟨#[98]⟩) = ⟨false, false, [(false, [47, 97])], 0⟩ := by rfl
theorem aw3 : readL 404 (btL ⟨#[]⟩) (btL ⟨#[98]⟩) = ⟨true, false, [], 0⟩ := by rfl
theorem aw4 : readL 500 (btL ⟨#[]⟩) (btL ⟨#[98]⟩) = ⟨false, true, [], 0⟩ := by rfl
theorem aw5 : (true : Bool) = true ↔ mayP false false [⟨true, strL [47]⟩] ⟨#[47, 120]⟩ := by decide +kernel
theorem aw6 : (false : Bool) = true ↔ mayP false false [⟨false, strL [47, 97]⟩] ⟨#[47, 97, 98]⟩ := by decide +kernel
set_option maxHeartbeats 4000000 in
theorem awake11 (w : World) (hT : TabsM w) : Calls Tryz.prog 6 #[] w fun e w' => e = .returned (.bool true) ∧ Below w.heap.size w w' := by
  have HT := Lib.hid hT
  have RD1 := Lib.hid (fun W => aw1 ▸ read_at 200 awT1 ⟨#[98, 111, 116, 47, 50, 46, 49]⟩ (by decide) (by decide) W)
  have RD2 := Lib.hid (fun W => aw2 ▸ read_at 200 awT2 ⟨#[98]⟩ (by decide) (by decide) W)
  have RD3 := Lib.hid (fun W => aw3 ▸ read_at 404 ⟨#[]⟩ ⟨#[98]⟩ (by decide) (by decide) W)
  have RD4 := Lib.hid (fun W => aw4 ▸ read_at 500 ⟨#[]⟩ ⟨#[98]⟩ (by decide) (by decide) W)
  have MY1 : Hid (∀ a cap d W, RdC W a (ruC [(true, [47])]) → Below w.heap.size w W → Calls Tryz.prog 10 #[.agg #[.bool false, .bool false, .slice a 1 cap, .int .i64 d], .string ⟨#[47, 120]⟩] W fun e w' => e = .returned (.bool true) ∧ Below W.heap.size W w') := Lib.hid (fun a cap d W h hW =>
    may_at false false [⟨true, strL [47]⟩] a 1 cap d ⟨#[47, 120]⟩ true aw5 W rfl h.rdr (by omega) (by simp) (by decide) (HT.out.later hW))
  have MY2 : Hid (∀ a cap d W, RdC W a (ruC [(false, [47, 97])]) → Below w.heap.size w W → Calls Tryz.prog 10 #[.agg #[.bool false, .bool false, .slice a 1 cap, .int .i64 d], .string ⟨#[47, 97, 98]⟩] W fun e w' => e = .returned (.bool false) ∧ Below W.heap.size W w') := Lib.hid (fun a cap d W h hW =>
    may_at false false [⟨false, strL [47, 97]⟩] a 1 cap d ⟨#[47, 97, 98]⟩ false aw6 W rfl h.rdr (by omega) (by simp) (by decide) (HT.out.later hW))
  have TK := Lib.hid (fun W => token_at ⟨#[65, 98, 45, 99, 95, 49]⟩ (by decide) W)
  rw [show strL (tokL (btL ⟨#[65, 98, 45, 99, 95, 49]⟩)) = ⟨#[97, 98, 45, 99, 95]⟩ by rfl] at TK
  have RT := Lib.hid (fun W => rtoken_at ⟨#[65]⟩ (by decide) W)
  rw [show strL (tokL (btL ⟨#[65]⟩)) = ⟨#[97]⟩ by rfl] at RT
  clear hT
  go_enter Tryz.func6, Tryz.ntmps6
  go_wp2_with fail
  refine (RD1.out _).mono ?_
  rintro e w1 ⟨a1, c1, rfl, r1, l1, l2, _, hb1⟩
  have B1 := Lib.hid hb1
  have R1 := Lib.hid r1
  clear r1 hb1 RD1
  simp only [List.length_cons, List.length_nil, Nat.zero_add] at l1 ⊢
  have BX := Lib.hid (Box.new w1 #[.bool false, .bool false, .slice a1 1 c1, .int .i64 3000] 26)
  have BB := Lib.hid (B1.out.alloc B1.out.size (.cells #[.bool false, .bool false, .slice a1 1 c1, .int .i64 3000] 26))
  have RR := Lib.hid (R1.out.later ((Below.refl _ _).alloc (Nat.le_refl _) (.cells #[.bool false, .bool false, .slice a1 1 c1, .int .i64 3000] 26)))
  go_upto_region 2 with fail
  obtain ⟨w2, hw2⟩ : ∃ W, w1.alloc (.cells #[.bool false, .bool false, .slice a1 1 c1, .int .i64 3000] 26) = W := ⟨_, rfl⟩
  rw [hw2] at BX BB RR
  rw [hw2]
  clear hw2 R1 B1 l1 l2
  have c0 := BX.out.cell 0
  have c1' := BX.out.cell 1
  have c2 := BX.out.cell 2
  have c3 := BX.out.cell 3
  have lt := BX.out.lt
  go_wp2_with fail
  refine (MY1.out _ _ _ _ RR.out BB.out).mono ?_
  rintro e w3 ⟨rfl, hb3⟩
  have d3 := (BX.out.later hb3).cell 3
  have B3 := Lib.hid (BB.out.trans (hb3.mono BB.out.size))
  clear c0 c1' c2 c3 lt hb3 BX BB RR MY1
  go_wp2_with fail
  refine (RD2.out _).mono ?_
  rintro e w4 ⟨a4, c4, rfl, r4, l4, l4', _, hb4⟩
  have B4 := Lib.hid (B3.out.trans (hb4.mono B3.out.size))
  have R4 := Lib.hid r4
  simp only [List.length_cons, List.length_nil, Nat.zero_add] at l4 ⊢
  clear hb4 r4 d3 RD2 B3
  go_wp2_with fail
  refine (MY2.out _ _ _ _ R4.out B4.out).mono ?_
  rintro e w5 ⟨rfl, hb5⟩
  have B5 := Lib.hid (B4.out.trans (hb5.mono B4.out.size))
  clear hb5 R4 B4 MY2 l4 l4'
  go_wp2_with fail
  refine (RD3.out _).mono ?_
  rintro e w6 ⟨a6, c6, rfl, r6, l6, l6', _, hb6⟩
  have B6 := Lib.hid (B5.out.trans (hb6.mono B5.out.size))
  simp only [List.length_nil] at l6 ⊢
  have q6 := fld0 (.bool true) (.bool false) (.slice a6 0 c6) (.int .i64 0) w6
  clear hb6 r6 RD3 B5 l6 l6'
  go_wp2_with fail
  refine (RD4.out _).mono ?_
  rintro e w7 ⟨a7, c7, rfl, r7, l7, l7', _, hb7⟩
  have B7 := Lib.hid (B6.out.trans (hb7.mono B6.out.size))
  simp only [List.length_nil] at l7 ⊢
  have q7 := fld1 (.bool false) (.bool true) (.slice a7 0 c7) (.int .i64 0) w7
  clear hb7 r7 RD4 B6 l7 l7'
  go_wp2_with fail
  refine (TK.out _).mono ?_
  rintro e w8 ⟨rfl, hb8⟩
  have B8 := Lib.hid (B7.out.trans (hb8.mono B7.out.size))
  clear hb8 B7 TK
  go_wp2_with fail
  refine (RT.out _).mono ?_
  rintro e w9 ⟨rfl, hb9⟩
  have B9 := Lib.hid (B8.out.trans (hb9.mono B8.out.size))
  clear hb9 B8 RT
  go_wp2
  go_ret
  exact ⟨rfl, B9.out⟩
end Go.Proofs.YtodlecjbpmggiaaGreatDoor
