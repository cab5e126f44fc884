/- The document's disk: Append. -/
import Derived.Test.YtomeipjglnpciaaDkRap0
namespace Go.Proofs.Ytomeipjglnpciaa
open Go Go.RowKit Go.Maps
set_option linter.unusedVariables false
set_option linter.unusedSimpArgs false
set_option maxRecDepth 10000

theorem gb_trans {a b c : World} {row : Option Nat} (h : a.grownBy b row) (k : b.grownBy c row) : a.grownBy c row :=
  ⟨k.os.trans h.os, k.tape.trans h.tape, k.output.trans h.output, Nat.le_trans h.size k.size, fun x hx hne => (k.block x (Nat.lt_of_lt_of_le hx h.size) hne).trans (h.block x hx hne)⟩
theorem gb_refl (a : World) (row : Option Nat) : a.grownBy a.drew row := ⟨rfl, rfl, rfl, Nat.le_refl _, fun _ _ _ => rfl⟩
theorem gb_later {a b c : World} {row : Option Nat} (h : a.grownBy b row) (k : Below b.heap.size b c) : a.grownBy c row :=
  ⟨k.os.trans h.os, k.tape.trans h.tape, k.output.trans h.output, Nat.le_trans h.size k.size, fun x hx hne => (k.block x (Nat.lt_of_lt_of_le hx h.size)).trans (h.block x hx hne)⟩
theorem byL_one (b : Int × Int) : ∀ u ∈ byL b, u.oneCell' = true := by
  intro u hu
  rcases List.mem_cons.1 hu with rfl | hu
  · rfl
  · rcases List.mem_cons.1 hu with rfl | hu
    · rfl
    · cases hu
theorem new_one (n : Int) : ∀ u ∈ ([.int .i64 n, .slice none 0 0] : List Value), u.oneCell' = true := by
  intro u hu
  rcases List.mem_cons.1 hu with rfl | hu
  · rfl
  · rcases List.mem_cons.1 hu with rfl | hu
    · rfl
    · cases hu
def FbR (R : Rgs) (most n : Int) (m : Nat) (fb : Bool) : Prop :=
  ((∀ p ∈ R, p.1 ≠ n) ∧ fb = (decide (most ≤ (R.length : Int)) || decide (2048 < (m : Int)))) ∨ ∃ (k : Nat) (bs : Bys), R[k]? = some (n, bs) ∧ fb = decide (2048 < (bs.length : Int) + (m : Int))
def ApR (R R' : Rgs) (n : Int) (ms : Bys) : Prop := ∃ (R1 : Rgs) (k : Nat) (bs : Bys), R1[k]? = some (n, bs) ∧ R' = R1.set k (n, bs ++ ms) ∧ (R1 = R ∨ (bs = [] ∧ (∀ p ∈ R, p.1 ≠ n) ∧ k ≤ R.length ∧ R1 = R.take k ++ (n, []) :: R.drop k))
def ApRP (B d : Nat) (sa : Option Addr) (R : Rgs) (V : VF) (most next first fails n : Int) (b : List Int) (w : World) (e : Ending) (w' : World) : Prop :=
  ∃ fb, FbR R most n b.length fb ∧ ((fb = true ∧ e = .returned (.int .i64 5) ∧ Below w.heap.size w w') ∨
    (fb = false ∧ wfB first fails = true ∧ e = .returned (.int .i64 7) ∧ ∃ sc', Rm w' B d sa sc' R V most next (wfH first) (wfF first fails) ∧ TurnR d sa R V w sa R V w') ∨
    (fb = false ∧ wfB first fails = false ∧ e = .returned (.int .i64 0) ∧ ∃ sa' sc' R' V', Rm w' B d sa' sc' R' V' most (next + (b.length : Int)) (wfH first) (wfF first fails) ∧ TurnR d sa R V w sa' R' V' w' ∧ ApR R R' n (mkB next b)))
section
variable {w : World} {B d sc : Nat} {sa : Option Addr} {R : Rgs} {V : VF} {most next first fails : Int}
theorem append_arg (n : Int) (hn : n < 0) (d : Nat) (ab : Option Addr) (m cb : Nat) (w : World) : Calls Try.prog 7 #[.pointer (some ⟨d, 0, none⟩), .int .i64 n, .slice ab m cb] w fun e w' => e = .returned (.int .i64 1) ∧ w' = w := by
  have d1 : decide (n < 0) = true := decide_eq_true hn
  go_enter Try.func7, Try.ntmps7
  go_wp2
  go_ret
  exact ⟨rfl, rfl⟩
set_option maxHeartbeats 16000000 in
theorem append_ref (h : Rm w B d sa sc R V most next first fails) (hB : B ≤ w.heap.size) (hseg : ∀ n bs, (n, bs) ∈ R → bs.length ≤ 2048) (n : Int) (hn : 0 ≤ n) (b : List Int) (m : Nat) (hm : b.length = m) (hm2 : m ≤ 100000) (hnx : 0 ≤ next) (hnx2 : next ≤ 1000000000) (ab : Option Addr) (cb : Nat) (hr : RdC w ab (u8L b))
    (hnm : ∀ g off, ab = some ⟨g, off, none⟩ → b ≠ [] → ¬ MineR d sa R V g) :
    Calls Try.prog 7 #[.pointer (some ⟨d, 0, none⟩), .int .i64 n, .slice ab m cb] w (ApRP B d sa R V most next first fails n b w) := by
  have AT := Lib.hid (at_ref h n)
  have H0 := Lib.hid h
  have HM := Lib.hid hm
  have HR := Lib.hid hr
  have HNM := Lib.hid hnm
  have hcnt := h.cnt
  have hmo := h.mo
  obtain ⟨K, hK⟩ : ∃ K, R.length = K := ⟨_, rfl⟩
  have HK := Lib.hid hK
  have c0 := h.box.cell 0
  have c1 := h.box.cell 1
  have ld := h.box.lt
  rw [hK] at c1 hcnt
  have d1 : decide (n < 0) = false := decide_eq_false (by omega)
  have d1p : ¬ n < 0 := by omega
  obtain ⟨wb, hwb⟩ : ∃ x, wfB first fails = x := ⟨_, rfl⟩
  have WFB := Lib.hid hwb
  rcases atR_in R n with ⟨hv, hno⟩ | ⟨k, bs, hv, hk⟩
  · rw [hv] at AT
    have HNO := Lib.hid hno
    obtain ⟨c9, hc9⟩ : ∃ b, decide (most ≤ (K : Int)) = b := ⟨_, rfl⟩
    obtain ⟨c8, hc8⟩ : ∃ b, decide (2048 < (m : Int)) = b := ⟨_, rfl⟩
    obtain ⟨fb, hfb⟩ : ∃ fb, (c9 || c8) = fb := ⟨_, rfl⟩
    have HFB := Lib.hid hfb
    have FBR : Hid (FbR R most n b.length fb) := Lib.hid (Or.inl ⟨hno, by rw [hm, hK, hc9, hc8, hfb]⟩)
    have HC9 := Lib.hid hc9
    have HC8 := Lib.hid hc8
    have hd0 : decide ((-1 : Int) < 0) = true := rfl
    have hd1 : decide ((0 : Int) ≤ -1) = false := rfl
    clear h hm hr hnm hK hwb hv hno hfb
    go_enter Try.func7, Try.ntmps7
    go_wp2_with fail
    refine AT.out.mono ?_
    rintro e w1 ⟨rfl, hw1⟩
    subst w1
    clear AT
    go_upto_region 4 with fail
    go_cut [55] (fun v wx => v = .bool fb ∧ Hid (Below w.heap.size w wx))
    case first =>
      have HF := HFB.out
      cases c9 with
      | true =>
        obtain rfl : true = fb := by simpa using HF
        go_quiet (fail)
        go_wp2
        go_meet
        exact ⟨rfl, Lib.hid (dk_drewN (Below.refl _ _) nq)⟩
      | false =>
        obtain rfl : c8 = fb := by simpa using HF
        cases c8 with
        | true =>
          go_quiet (fail)
          go_wp2
          go_meet
          exact ⟨rfl, Lib.hid (dk_drewN (Below.refl _ _) nq)⟩
        | false =>
          go_quiet (fail)
          go_wp2
          go_meet
          exact ⟨rfl, Lib.hid (dk_drewN (Below.refl _ _) nq)⟩
    case rest =>
      obtain ⟨rfl, BC⟩ := hcut
      obtain ⟨w1, hw1⟩ : ∃ W, wc = W := ⟨_, rfl⟩
      rw [hw1] at BC ⊢
      clear hw1 c0 c1 ld hc8 hc9
      cases fb with
      | true =>
        have FIN : Hid (ApRP B d sa R V most next first fails n b w (.returned (.int .i64 5)) w1) := Lib.hid ⟨true, FBR.out, Or.inl ⟨rfl, rfl, BC.out⟩⟩
        go_wp2
        go_ret
        exact FIN.out
      | false =>
        have FL := Lib.hid (fails_ref (H0.out.later BC.out))
        rw [WFB.out] at FL
        obtain rfl : c9 = false := by have h9 := HFB.out; cases c9; rfl; cases h9
        obtain rfl : c8 = false := by have h9 := HFB.out; cases c8; rfl; cases h9
        have hm3 : m ≤ 2048 := by have h9 := of_decide_eq_false HC8.out; omega
        have hKm : (K : Int) < most := by have h9 := of_decide_eq_false HC9.out; omega
        go_wp2_with fail
        refine FL.out.mono ?_
        rintro e w2 ⟨rfl, r2, t2⟩
        have R2 := Lib.hid r2
        have T2 := Lib.hid ((TurnR.refl (d := d) (sa := sa) (R := R) (V := V) BC.out).trans t2)
        clear r2 t2 FL BC HFB HC9 HC8
        obtain ⟨f1, hf1⟩ : ∃ x, wfH first = x := ⟨_, rfl⟩
        obtain ⟨f2, hf2⟩ : ∃ x, wfF first fails = x := ⟨_, rfl⟩
        have HF1 := Lib.hid hf1
        have HF2 := Lib.hid hf2
        rw [hf1, hf2] at R2
        clear hf1 hf2
        cases wb with
        | true =>
          have FIN : Hid (ApRP B d sa R V most next first fails n b w (.returned (.int .i64 7)) w2) := Lib.hid ⟨false, FBR.out, Or.inr (Or.inl ⟨rfl, WFB.out, rfl, sc, by rw [HF1.out, HF2.out]; exact R2.out, T2.out⟩)⟩
          go_wp2
          go_ret
          exact FIN.out
        | false =>
          have BX2 : Hid (Box w2 d #[.int .i64 most, .slice sa K sc, .int .i64 next, .int .i64 f1, .int .i64 f2] 37) := Lib.hid (by have h9 := R2.out.box; rw [HK.out] at h9; exact h9)
          have sz2 : B ≤ w2.heap.size := Nat.le_trans R2.out.dB (Nat.le_of_lt R2.out.box.lt)
          have c1 := BX2.out.cell 1
          have ld := BX2.out.lt
          go_wp2_with fail
          go_loopw [7] (fun vi wr => ∃ i : Nat, i ≤ K ∧ vi = .int .i64 (i : Int) ∧ wr = w2 ∧ Hid (∀ x p, x < i → R[x]? = some p → p.1 < n)) (fun vi _ => K - (vI vi).toNat)
          case atStart => exact ⟨0, by omega, rfl, rfl, Lib.hid (fun x p hx => by omega)⟩
          case round =>
            obtain ⟨i, hi, rfl, hww, HP⟩ := hrel
            subst hww
            obtain ⟨w2, rfl⟩ : ∃ W, W = wr := ⟨_, rfl⟩
            have hi0 : (0 : Int) ≤ (i : Int) := by omega
            by_cases hgo : ∃ p, R[i]? = some p ∧ p.1 < n
            · obtain ⟨p, hp, hpn⟩ := hgo
              have hlt : i < K := by have := (List.getElem?_eq_some_iff.1 hp).1; have := HK.out; omega
              have hid' : decide ((i : Int) < (K : Int)) = true := decide_eq_true (by omega)
              have hi1 : (i : Int) < (K : Int) := by omega
              have hpd : decide (p.1 < n) = true := decide_eq_true hpn
              obtain ⟨g, hg, _⟩ := R2.out.own.some_ (by rw [HK.out]; omega)
              subst hg
              have m0 := R2.out.own.cell ((two_get (sgL V) (sgL_len V) hp).1.trans rfl)
              have HP2 : Hid (∀ x q, x < i + 1 → R[x]? = some q → q.1 < n) := Lib.hid (fun x q hx hq => by
                by_cases hxi : x = i
                · subst hxi
                  rw [hp] at hq
                  injection hq with hq
                  rw [← hq]; exact hpn
                · exact HP.out x q (by omega) hq)
              obtain ⟨pn, pb⟩ := p
              dsimp only at m0 hpd
              clear HP hp hpn
              go_wp2
              go_roundw
              case rel => exact ⟨i + 1, by omega, by go_num, trivial, HP2⟩
              case measure => exact cra_ms K i hlt
            · have HH : Hid (∀ p, R[i]? = some p → ¬ p.1 < n) := Lib.hid (fun p hp hq => hgo ⟨p, hp, hq⟩)
              have FRM : ∃ b2, (∀ W : World, (Instr.sliceAt 35 (.slice sa K sc) (some (.int .i64 (i : Int))) none none).run Try.prog W = .ok (.slice b2 (K - i) (sc - i)) W) ∧ (i < K → ∀ g, sa = some ⟨g, 0, none⟩ → b2 = some ⟨g, i * 2, none⟩) := by
                have hoo := R2.out.own
                rw [HK.out] at hoo
                rcases hoo.form with ⟨h1, h2, h3⟩ | ⟨g, h, _⟩
                · subst h1 h3
                  obtain rfl : i = 0 := by omega
                  rw [h2]
                  exact ⟨none, fun W => sliceNil_run rowSg W, fun hl => by omega⟩
                · subst h
                  obtain ⟨off, h1, h2⟩ := sliceFrom_off rowSg g K sc i hi hoo.cap_le
                  exact ⟨_, h1, fun hl g' e => by
                    injection e with e
                    injection e with e
                    rw [e, h2 (by omega)]⟩
              obtain ⟨b2, hb2, ho2⟩ := FRM
              have HU := Lib.hid hb2
              have HO2 := Lib.hid ho2
              have HNC : Hid (sa = none → sc = 0) := Lib.hid (fun e => by
                rcases R2.out.own.form with ⟨_, _, h⟩ | ⟨g, h, _⟩
                · exact h
                · rw [e] at h; cases h)
              have HKC : Hid (i ≤ sc) := Lib.hid (by have := R2.out.own.cap_le; have := HK.out; omega)
              have LT : Hid ((sgC V (R.take i)).length = i * 2) := Lib.hid (by rw [sgC, two_len _ (sgL_len V), List.length_take]; have := HK.out; omega)
              have LD : Hid ((sgC V (R.drop i)).length = (K - i) * 2) := Lib.hid (by rw [sgC, two_len _ (sgL_len V), List.length_drop, HK.out])
              have RD1 : Hid (∀ W, Below w2.heap.size w2 W → RdC W sa (sgC V (R.take i))) := Lib.hid (fun W hW => by
                intro j u hj
                rw [show sgC V (R.take i) = (sgC V R).take (i * 2) from two_take _ (sgL_len V) R i, List.getElem?_take] at hj
                split at hj
                · have hjl := (List.getElem?_eq_some_iff.1 hj).1
                  rw [sgC, two_len _ (sgL_len V)] at hjl
                  obtain ⟨g, e, _⟩ := R2.out.own.some_ (by omega)
                  have h9 := (R2.out.later hW).own
                  rw [e] at h9 ⊢
                  exact ⟨g, 0, rfl, by rw [Nat.zero_add]; exact h9.cell hj⟩
                · cases hj)
              have RD2 : Hid (∀ W, Below w2.heap.size w2 W → RdC W b2 (sgC V (R.drop i))) := Lib.hid (fun W hW => by
                intro j u hj
                have hjl := (List.getElem?_eq_some_iff.1 hj).1
                rw [sgC, two_len _ (sgL_len V), List.length_drop, HK.out] at hjl
                rw [show sgC V (R.drop i) = (sgC V R).drop (i * 2) from two_drop _ (sgL_len V) R i, List.getElem?_drop] at hj
                obtain ⟨g, e, _⟩ := R2.out.own.some_ (by rw [HK.out]; omega)
                have h9 := (R2.out.later hW).own
                rw [e] at h9
                exact ⟨g, i * 2, HO2.out (by omega) g e, h9.cell hj⟩)
              obtain ⟨R1, hR1⟩ : ∃ R1, R.take i ++ (n, ([] : Bys)) :: R.drop i = R1 := ⟨_, rfl⟩
              have R1K : Hid (R1[i]? = some (n, [])) := Lib.hid (by
                rw [← hR1, List.getElem?_append_right (by rw [List.length_take]; omega), List.length_take, show i - min i R.length = 0 by have := HK.out; omega]
                rfl)
              have HK1 : Hid (R1.length = K + 1) := Lib.hid (by rw [← hR1, List.length_append, List.length_cons, List.length_take, List.length_drop]; have := HK.out; omega)
              have ENDL0 : Hid (∀ sc1 gs V2 W, Rm W B d (some ⟨gs, 0, none⟩) sc1 (R1.set i (n, [] ++ mkB next (b.take m))) V2 most (next + (m : Int)) f1 f2 ∧ TurnR d sa R V w (some ⟨gs, 0, none⟩) (R1.set i (n, [] ++ mkB next (b.take m))) V2 W → ApRP B d sa R V most next first fails n b w (.returned (.int .i64 0)) W) := Lib.hid (fun sc1 gs V2 W hh => by
                rw [List.take_of_length_le (Nat.le_of_eq HM.out)] at hh
                exact ⟨false, FBR.out, Or.inr (Or.inr ⟨rfl, WFB.out, rfl, _, sc1, _, V2, by rw [HM.out, HF1.out, HF2.out]; exact hh.1, hh.2, R1, i, [], R1K.out, rfl, Or.inr ⟨rfl, HNO.out, by rw [HK.out]; exact hi, hR1.symm⟩⟩)⟩)
              have FIN : Hid (∀ a3 c3 w6, Own w6 w2.heap.size 45 2 a3 (K + 1) c3 (sgC V (R.take i) ++ [.int .i64 n, .slice none 0 0] ++ sgC V (R.drop i)) → Below w2.heap.size w2 w6 → ∃ gs, a3 = some ⟨gs, 0, none⟩ ∧
                  (Rm (w6.setCell ⟨d, 1, none⟩ (.slice a3 (K + 1) c3)) B d a3 c3 (R1.set i (n, [] ++ mkB next (b.take 0))) (setV V n none 0) most (next + ((0 : Nat) : Int)) f1 f2 ∧ TurnR d sa R V w a3 (R1.set i (n, [] ++ mkB next (b.take 0))) (setV V n none 0) (w6.setCell ⟨d, 1, none⟩ (.slice a3 (K + 1) c3)))) := Lib.hid (fun a3 c3 w6 h1 h2 => by
                obtain ⟨g, e, _⟩ := h1.some_ (by omega)
                have k0 := R2.out.insrow sz2 (by rw [HK.out]; exact hi) (by rw [HK.out]) HNO.out HP.out HH.out (by rw [HK.out]; omega) h1 h2
                rw [hR1] at k0
                have e2 : R1.set i (n, [] ++ mkB next (b.take 0)) = R1 := by
                  refine List.ext_getElem? fun x => ?_
                  rw [List.getElem?_set]
                  split
                  · rename_i hx
                    subst hx
                    rw [R1K.out]
                    simp [mkB]
                    have := HK1.out
                    omega
                  · rfl
                rw [e2, show next + ((0 : Nat) : Int) = next by omega]
                exact ⟨g, e, k0.1, T2.out.trans k0.2⟩)
              have HL0 : Hid (([] : Bys).length = 0) := Lib.hid rfl
              obtain ⟨K1, hK1⟩ : ∃ x, K + 1 = x := ⟨_, rfl⟩
              have HK9 := HK1
              rw [hK1] at HK9
              have hq1 : (i : Int) < (K1 : Int) := by omega
              clear hK1
              have hLm : 0 + m ≤ 2048 := by omega
              have HZd : Hid (i < K → ∃ p, R[i]? = some p ∧ ¬ p.1 < n) := Lib.hid (fun hlt => ⟨_, List.getElem?_eq_getElem (by rw [HK.out]; exact hlt), HH.out _ (List.getElem?_eq_getElem _)⟩)
              have R2O := Lib.hid R2.out.own
              clear R2 T2 HP HO2 hgo hb2 ho2 HH hR1 hKm
              go_upto_region 10 with fail
              go_cut [78] (fun v wx => v = .bool false ∧ wx = w2)
              case first =>
                by_cases hlt : i < K
                · have hid' : decide ((i : Int) < (K : Int)) = true := decide_eq_true (by omega)
                  have hi1 : (i : Int) < (K : Int) := by omega
                  obtain ⟨p, hp, hpn⟩ := HZd.out hlt
                  have hpd : decide (p.1 < n) = false := decide_eq_false hpn
                  obtain ⟨g, hg, _⟩ := R2O.out.some_ (by rw [HK.out]; omega)
                  subst hg
                  have m0 := R2O.out.cell ((two_get (sgL V) (sgL_len V) hp).1.trans rfl)
                  obtain ⟨pn, pb⟩ := p
                  dsimp only at m0 hpd
                  clear hp hpn HZd R2O
                  go_wp2
                  go_meet
                  exact ⟨rfl, rfl⟩
                · have hid' : decide ((i : Int) < (K : Int)) = false := decide_eq_false (by omega)
                  clear HZd R2O
                  go_wp2
                  go_meet
                  exact ⟨rfl, rfl⟩
              case rest =>
                obtain ⟨rfl, hw9⟩ := hcut
                subst hw9
                obtain ⟨w2, rfl⟩ : ∃ W, W = wc := ⟨_, rfl⟩
                clear HZd R2O
                go_upto_region 12 with fail
                refine wp_region_last 22 (fun w' => Below w2.heap.size w2 w') (by kernel_rfl) ((Below.refl _ _).drew) (fun hHeld hClosed => ?_)
                generalize w2.drew = wc at hHeld ⊢
                refine wpAnyL_take (i := 0) (v := ?_) rfl (by kernel_rfl) (by kernel_rfl) (by kernel_rfl) (by kernel_rfl) (fun _ _ _ h => h) (by kernel_rfl) hClosed (Or.inl ⟨by rfl, ?_⟩) hHeld (fun hClosed => ?_)
                rotate_left
                · intro wv hSw; go_simp; all_goals (with_reducible rfl)
                (try simp only [List.getElem_toArray, List.getElem_cons_zero, put_at, List.set])
                refine wpAnyL_take (i := 2) (v := ?_) rfl (by kernel_rfl) (by kernel_rfl) (by kernel_rfl) (by kernel_rfl) (fun _ _ _ h => h) (by kernel_rfl) hClosed (Or.inl ⟨by rfl, ?_⟩) hHeld (fun hClosed => ?_)
                rotate_left
                · intro wv hSw; go_simp; all_goals (with_reducible rfl)
                (try simp only [List.getElem_toArray, List.getElem_cons_succ, List.getElem_cons_zero, put_at, List.set])
                refine wpAnyL_take (i := 3) (v := ?_) rfl (by kernel_rfl) (by kernel_rfl) (by kernel_rfl) (by kernel_rfl) (fun _ _ _ h => h) (by kernel_rfl) hClosed (Or.inl ⟨by rfl, ?_⟩) hHeld (fun hClosed => ?_)
                rotate_left
                · intro wv hSw; go_simp; all_goals (with_reducible rfl)
                (try simp only [List.getElem_toArray, List.getElem_cons_succ, List.getElem_cons_zero, put_at, List.set])
                refine wpAnyL_take (i := 4) (v := ?_) rfl (by kernel_rfl) (by kernel_rfl) (by kernel_rfl) (by kernel_rfl) (fun _ _ _ h => h) (by kernel_rfl) hClosed (Or.inl ⟨by rfl, ?_⟩) hHeld (fun hClosed => ?_)
                rotate_left
                · intro wv hSw; go_simp; all_goals (with_reducible rfl)
                (try simp only [List.getElem_toArray, List.getElem_cons_succ, List.getElem_cons_zero, put_at, List.set])
                refine wpAnyL_take (i := 5) (v := ?_) rfl (by kernel_rfl) (by kernel_rfl) (by kernel_rfl) (by kernel_rfl) (fun _ _ _ h => h) (by kernel_rfl) hClosed (Or.inl ⟨by rfl, ?_⟩) hHeld (fun hClosed => ?_)
                rotate_left
                · intro wv hSw; have c1 := (BX2.out.later hSw).cell 1; go_simp; all_goals (with_reducible rfl)
                (try simp only [List.getElem_toArray, List.getElem_cons_succ, List.getElem_cons_zero, put_at, List.set])
                refine wpAnyL_take (i := 6) (v := ?_) rfl (by kernel_rfl) (by kernel_rfl) (by kernel_rfl) (by kernel_rfl) (fun _ _ _ h => h) (by kernel_rfl) hClosed (Or.inl ⟨by rfl, ?_⟩) hHeld (fun hClosed => ?_)
                rotate_left
                · intro wv hSw; go_simp; all_goals (with_reducible rfl)
                (try simp only [List.getElem_toArray, List.getElem_cons_succ, List.getElem_cons_zero, put_at, List.set])
                refine wpAnyL_take (i := 7) (v := .slice sa i sc) rfl (by kernel_rfl) (by kernel_rfl) (by kernel_rfl) (by kernel_rfl) (fun _ _ _ h => h) (by kernel_rfl) hClosed (Or.inl ⟨by rfl, ?_⟩) hHeld (fun hClosed => ?_)
                · intro wv hSw; exact exec_slice (by rfl) (by rfl) (fun w => sliceTo_run rowSg sa K sc i HKC.out w HNC.out)
                (try simp only [List.getElem_toArray, List.getElem_cons_succ, List.getElem_cons_zero, put_at, List.set])
                refine wpAnyL_take (i := 9) (v := ?_) rfl (by kernel_rfl) (by kernel_rfl) (by kernel_rfl) (by kernel_rfl) (fun _ _ _ h => h) (by kernel_rfl) hClosed (Or.inl ⟨by rfl, ?_⟩) hHeld (fun hClosed => ?_)
                rotate_left
                · intro wv hSw; go_simp; all_goals (with_reducible rfl)
                (try simp only [List.getElem_toArray, List.getElem_cons_succ, List.getElem_cons_zero, put_at, List.set])
                refine wpAnyL_take (i := 10) (v := ?_) rfl (by kernel_rfl) (by kernel_rfl) (by kernel_rfl) (by kernel_rfl) (fun _ _ _ h => h) (by kernel_rfl) hClosed (Or.inl ⟨by rfl, ?_⟩) hHeld (fun hClosed => ?_)
                rotate_left
                · intro wv hSw; go_simp; all_goals (with_reducible rfl)
                (try simp only [List.getElem_toArray, List.getElem_cons_succ, List.getElem_cons_zero, put_at, List.set])
                refine wpAnyL_take (i := 13) (v := ?_) rfl (by kernel_rfl) (by kernel_rfl) (by kernel_rfl) (by kernel_rfl) (fun _ _ _ h => h) (by kernel_rfl) hClosed (Or.inl ⟨by rfl, ?_⟩) hHeld (fun hClosed => ?_)
                rotate_left
                · intro wv hSw; go_simp; all_goals (with_reducible rfl)
                (try simp only [List.getElem_toArray, List.getElem_cons_succ, List.getElem_cons_zero, put_at, List.set])
                refine wpAnyL_take (i := 14) (v := ?_) rfl (by kernel_rfl) (by kernel_rfl) (by kernel_rfl) (by kernel_rfl) (fun _ _ _ h => h) (by kernel_rfl) hClosed (Or.inl ⟨by rfl, ?_⟩) hHeld (fun hClosed => ?_)
                rotate_left
                · intro wv hSw; go_simp; all_goals (with_reducible rfl)
                (try simp only [List.getElem_toArray, List.getElem_cons_succ, List.getElem_cons_zero, put_at, List.set])
                refine wpAnyL_take (i := 15) (v := ?_) rfl (by kernel_rfl) (by kernel_rfl) (by kernel_rfl) (by kernel_rfl) (fun _ _ _ h => h) (by kernel_rfl) hClosed (Or.inl ⟨by rfl, ?_⟩) hHeld (fun hClosed => ?_)
                rotate_left
                · intro wv hSw; go_simp; all_goals (with_reducible rfl)
                (try simp only [List.getElem_toArray, List.getElem_cons_succ, List.getElem_cons_zero, put_at, List.set])
                refine wpAnyL_take (i := 16) (v := ?_) rfl (by kernel_rfl) (by kernel_rfl) (by kernel_rfl) (by kernel_rfl) (fun _ _ _ h => h) (by kernel_rfl) hClosed (Or.inl ⟨by rfl, ?_⟩) hHeld (fun hClosed => ?_)
                rotate_left
                · intro wv hSw; have c1 := (BX2.out.later hSw).cell 1; go_simp; all_goals (with_reducible rfl)
                (try simp only [List.getElem_toArray, List.getElem_cons_succ, List.getElem_cons_zero, put_at, List.set])
                refine wpAnyL_take (i := 17) (v := ?_) rfl (by kernel_rfl) (by kernel_rfl) (by kernel_rfl) (by kernel_rfl) (fun _ _ _ h => h) (by kernel_rfl) hClosed (Or.inl ⟨by rfl, ?_⟩) hHeld (fun hClosed => ?_)
                rotate_left
                · intro wv hSw; go_simp; all_goals (with_reducible rfl)
                (try simp only [List.getElem_toArray, List.getElem_cons_succ, List.getElem_cons_zero, put_at, List.set])
                refine wpAnyL_take (i := 18) (v := .slice b2 (K - i) (sc - i)) rfl (by kernel_rfl) (by kernel_rfl) (by kernel_rfl) (by kernel_rfl) (fun _ _ _ h => h) (by kernel_rfl) hClosed (Or.inl ⟨by rfl, ?_⟩) hHeld (fun hClosed => ?_)
                · intro wv hSw; exact exec_slice (by rfl) (by rfl) HU.out
                (try simp only [List.getElem_toArray, List.getElem_cons_succ, List.getElem_cons_zero, put_at, List.set])
                refine wpAnyL_two (i := 1) (j := 11) rfl rfl (by kernel_rfl) (by kernel_rfl) (by kernel_rfl) hClosed (fun KK hK => ?_) (fun KK hK => ?_)
                · go_simp
                  obtain ⟨wc1, ba, hw1, hb1, L1, oe, X1⟩ := newS hHeld
                  rw [hw1, hb1]
                  refine hK.out _ _ ?_ (fun hClosed hHeld => ?_)
                  · exact L1
                  clear hK KK
                  (first | simp only [List.getElem_toArray, List.getElem_cons_succ, List.getElem_cons_zero, put_at, List.set] | (try simp only [put_at, List.set]))
                  have OE := Lib.hid oe
                  clear oe L1 X1 hw1 hb1
                  refine wpAnyL_two (i := 8) (j := 11) rfl rfl (by kernel_rfl) (by kernel_rfl) (by kernel_rfl) hClosed (fun KK hK => ?_) (fun KK hK => ?_)
                  · refine step_appE rowSg rfl _ _ rfl w2.heap.size (some ⟨ba, 0, none⟩) 0 0 ([]) rfl OE.out sa i sc (sgC V (R.take i)) rfl LT.out (RD1.out _ hHeld) (sgC_one V _) (by omega) (by decide) hHeld.size i (by omega) (sgC V (R.take i)) rfl ?_
                    rintro a1 c1 w4 q1 q2 q3 q4
                    refine hK.out _ _ ?_ (fun hClosed hHeld => ?_)
                    · exact hHeld.trans q3
                    clear hK KK
                    (first | simp only [List.getElem_toArray, List.getElem_cons_succ, List.getElem_cons_zero, put_at, List.set] | (try simp only [put_at, List.set]))
                    clear OE
                    have OE := Lib.hid q1
                    clear q1 q2 q3 q4
                    refine wpAnyL_one (i := 11) rfl (by kernel_rfl) (by kernel_rfl) hClosed (fun KK hK => ?_)
                    go_simp
                    obtain ⟨wc2, be, hw2, hb2, L2, ce, X2⟩ := newEl #[.int .i64 n, .slice none 0 0] 45 hHeld
                    rw [hw2, hb2]
                    refine hK.out _ _ ?_ (fun hClosed hHeld => ?_)
                    · exact L2
                    clear hK KK
                    (first | simp only [List.getElem_toArray, List.getElem_cons_succ, List.getElem_cons_zero, put_at, List.set] | (try simp only [put_at, List.set]))
                    have CE := Lib.hid ce
                    have NE : Hid ((a1 : Option Addr).map (·.block) ≠ some be) := Lib.hid (fun e => by have h1 := (own_lt OE.out (own_block5 OE.out e)).1; omega)
                    have OE2 := Lib.hid (OE.out.later X2)
                    clear OE
                    have OE := OE2
                    clear OE2
                    clear ce L2 X2 hw2 hb2
                    refine wpAnyL_one (i := 12) rfl (by kernel_rfl) (by kernel_rfl) hClosed (fun KK hK => ?_)
                    refine step_appE rowSg rfl _ _ rfl w2.heap.size a1 i c1 (sgC V (R.take i)) rfl OE.out (some ⟨be, 0, none⟩) 1 1 ([.int .i64 n, .slice none 0 0]) rfl rfl (CE.out.rd) (new_one n) (by omega) (by decide) hHeld.size (i + 1) (by omega) (sgC V (R.take i) ++ [.int .i64 n, .slice none 0 0]) rfl ?_
                    rintro a2 c2 w5 q1 q2 q3 q4
                    refine hK.out _ _ ?_ (fun hClosed hHeld => ?_)
                    · exact hHeld.trans q3
                    clear hK KK
                    (first | simp only [List.getElem_toArray, List.getElem_cons_succ, List.getElem_cons_zero, put_at, List.set] | (try simp only [put_at, List.set]))
                    clear OE CE NE
                    have OE := Lib.hid q1
                    clear q1 q2 q3 q4
                    refine wpAnyL_one (i := 19) rfl (by kernel_rfl) (by kernel_rfl) hClosed (fun KK hK => ?_)
                    refine step_appE rowSg rfl _ _ rfl w2.heap.size a2 (i + 1) c2 (sgC V (R.take i) ++ [.int .i64 n, .slice none 0 0]) rfl OE.out b2 (K - i) (sc - i) (sgC V (R.drop i)) rfl LD.out (RD2.out _ hHeld) (sgC_one V _) (by omega) (by decide) hHeld.size (K + 1) (by omega) (sgC V (R.take i) ++ [.int .i64 n, .slice none 0 0] ++ sgC V (R.drop i)) rfl ?_
                    rintro a3 c3 w6 q1 q2 q3 q4
                    refine hK.out _ _ ?_ (fun hClosed hHeld => ?_)
                    · exact hHeld.trans q3
                    clear hK KK
                    (first | simp only [List.getElem_toArray, List.getElem_cons_succ, List.getElem_cons_zero, put_at, List.set] | (try simp only [put_at, List.set]))
                    have FF := Lib.hid (FIN.out a3 c3 w6 q1 hHeld)
                    clear q1 q2 q3 q4 OE FIN
                    refine wpAnyL_take (i := 20) (v := ?_) rfl (by kernel_rfl) (by kernel_rfl) (by kernel_rfl) (by kernel_rfl) (fun _ _ _ h => h) (by kernel_rfl) hClosed (Or.inl ⟨by rfl, ?_⟩) hHeld (fun hClosed => ?_)
                    rotate_left
                    · intro wv hSw; go_simp; all_goals (with_reducible rfl)
                    (try simp only [List.getElem_toArray, List.getElem_cons_succ, List.getElem_cons_zero, put_at, List.set])
                    refine wpAnyL_take (i := 21) (v := ?_) rfl (by kernel_rfl) (by kernel_rfl) (by kernel_rfl) (by kernel_rfl) (fun _ _ _ h => h) (by kernel_rfl) hClosed (Or.inl ⟨by rfl, ?_⟩) hHeld (fun hClosed => ?_)
                    rotate_left
                    · intro wv hSw; go_simp; all_goals (with_reducible rfl)
                    (try simp only [List.getElem_toArray, List.getElem_cons_succ, List.getElem_cons_zero, put_at, List.set])
                    refine wpAnyL_last rfl (by kernel_rfl) (by kernel_rfl) (fun KK hK => ?_)
                    have e9 := (BX2.out.later hHeld).cell 1
                    have f9 := (BX2.out.later hHeld).free 1
                    have l9 := (BX2.out.later hHeld).lt
                    go_simp
                    refine hK.out _ _ ?_
                    (try simp only [put_at, List.set])
                    obtain ⟨gs, rfl, ls0⟩ := FF.out
                    have LS0 := Lib.hid ls0
                    clear ls0 FF
                    generalize w6.setCell ⟨d, 1, none⟩ (.slice (some ⟨gs, 0, none⟩) (K + 1) c3) = w7 at LS0 ⊢
                    clear LT LD HKC HNC HU RD1 RD2 BX2 e9 f9 l9
                    have ENDL := Lib.hid (ENDL0.out c3 gs)
                    go_wp2_with fail
                    go_loopw [8] (fun vj wr => ∃ (j : Nat) (V2 : VF), j ≤ m ∧ vj = .int .i64 (j : Int) ∧ Hid (Rm wr B d (some ⟨gs, 0, none⟩) c3 (R1.set i (n, ([] : Bys) ++ mkB next (b.take j))) V2 most (next + (j : Int)) f1 f2 ∧ TurnR d sa R V w (some ⟨gs, 0, none⟩) (R1.set i (n, ([] : Bys) ++ mkB next (b.take j))) V2 wr)) (fun vj _ => m - (vI vj).toNat)
                    case atStart => exact ⟨0, (setV V n none 0), by omega, rfl, LS0⟩
                    case round =>
                      obtain ⟨j, V2, hj, rfl, LS⟩ := hrel
                      clear LS0
                      obtain ⟨wl, rfl⟩ : ∃ W, W = wr := ⟨_, rfl⟩
                      have hcb : (m : Int) ≤ 100000 := by omega
                      by_cases hlt : j < m
                      · have hjd : decide ((j : Int) < (m : Int)) = true := decide_eq_true (by omega)
                        obtain ⟨x, hx⟩ : ∃ x, b[j]? = some x := ⟨_, List.getElem?_eq_getElem (by rw [HM.out]; exact hlt)⟩
                        have R1K2 : Hid ((R1.set i (n, ([] : Bys) ++ mkB next (b.take j)))[i]? = some (n, ([] : Bys) ++ mkB next (b.take j))) := Lib.hid (List.getElem?_set_self (List.getElem?_eq_some_iff.1 R1K.out).1)
                        have HLN : Hid ((([] : Bys) ++ mkB next (b.take j)).length = 0 + j) := Lib.hid (by rw [List.length_append, mkB_len, List.length_take, HL0.out, HM.out]; omega)
                        obtain ⟨L, hL⟩ : ∃ L, 0 + j = L := ⟨_, rfl⟩
                        have hL2 : L + 1 ≤ 2048 := by omega
                        rw [hL] at HLN
                        obtain ⟨A, hA⟩ : ∃ A, (V2 n).1 = A := ⟨_, rfl⟩
                        obtain ⟨C, hC⟩ : ∃ C, (V2 n).2 = C := ⟨_, rfl⟩
                        have RWS : Hid (Own wl B 57 2 A L C (byC (([] : Bys) ++ mkB next (b.take j)))) := Lib.hid (by have h9 := LS.out.1.rows n _ (List.mem_of_getElem? R1K2.out); rw [hA, hC, HLN.out] at h9; exact h9)
                        have OES : Hid (∀ W, Below wl.heap.size wl W → Own W B 57 2 A L C (byC (([] : Bys) ++ mkB next (b.take j)))) := Lib.hid (fun W hW => RWS.out.later hW)
                        obtain ⟨ga, og, habe, hbg⟩ := HR.out j (.int .u8 x) (by unfold u8L; rw [List.getElem?_map, hx]; rfl)
                        have hng : ¬ MineR d sa R V ga := HNM.out ga og habe (fun e => by rw [e] at hx; simp at hx)
                        have hgl : ga < w.heap.size := World.block_lt_of_cell? _ _ hbg
                        subst habe
                        have BC0 : Hid (wl.cell? ⟨ga, og + j, none⟩ = some (.int .u8 x) ∧ ga < wl.heap.size ∧ some ga ≠ A.map (·.block)) := Lib.hid ⟨(cell_blk (LS.out.2.1.block ga hgl hng) _).trans hbg, Nat.lt_of_lt_of_le hgl LS.out.2.1.size, fun e => by
                          have h8 := own_block5 RWS.out e.symm
                          rcases LS.out.2.2 ga (Or.inr (Or.inr ⟨n, _, List.mem_of_getElem? R1K2.out, by rw [hA]; exact h8⟩)) with h9 | h9
                          · exact hng h9
                          · omega⟩
                        have CS : Hid (∀ W, wl.grownBy W (A.map (·.block)) → W.cell? ⟨d, 1, none⟩ = some (.slice (some ⟨gs, 0, none⟩) K1 c3) ∧ W.cell? ⟨gs, i * 2 + 1, none⟩ = some (.slice A L C) ∧ W.cell? ⟨ga, og + j, none⟩ = some (.int .u8 x) ∧ W.cell? ⟨d, 2, none⟩ = some (.int .i64 (next + (j : Int))) ∧ d < W.heap.size ∧ W.frozen? ⟨gs, i * 2 + 1, none⟩ = false) := Lib.hid (fun W hW => by
                          have hd : some d ≠ A.map (·.block) := fun e => by
                            have h9 := own_block5 RWS.out e.symm
                            have h8 := RWS.out
                            rw [h9] at h8
                            exact own_not_box h8 LS.out.1.box (by decide) rfl
                          have hs : some gs ≠ A.map (·.block) := fun e => own_apart LS.out.1.own RWS.out rfl (own_block5 RWS.out e.symm) (by decide)
                          have q1 := LS.out.1.box.cell 1
                          have q2 := LS.out.1.box.cell 2
                          rw [List.length_set, HK9.out] at q1
                          have q3 := LS.out.1.own.cell ((two_get (sgL V2) (sgL_len V2) R1K2.out).2.trans rfl)
                          rw [hA, hC, HLN.out] at q3
                          have o9 := LS.out.1.own.blocks (w' := W) (fun g e => by injection e with e; injection e with e; subst e; exact hW.block _ LS.out.1.own.lt.2 hs)
                          exact ⟨(cell_blk (hW.block d LS.out.1.box.lt hd) _).trans q1, (cell_blk (hW.block gs LS.out.1.own.lt.2 hs) _).trans q3, (cell_blk (hW.block ga BC0.out.2.1 BC0.out.2.2) _).trans BC0.out.1, (cell_blk (hW.block d LS.out.1.box.lt hd) _).trans q2, Nat.lt_of_lt_of_le LS.out.1.box.lt hW.size, o9.free _⟩)
                        have GFS : Hid (∀ W, wl.grownBy W (A.map (·.block)) → W.cell? ⟨gs, i * 2 + 1, none⟩ = some (.slice A L C) ∧ W.frozen? ⟨gs, i * 2 + 1, none⟩ = false ∧ gs < W.heap.size) := Lib.hid (fun W hW => by
                          obtain ⟨_, z1, _, _, _, z2⟩ := CS.out W hW
                          exact ⟨z1, z2, World.block_lt_of_cell? _ _ z1⟩)
                        have szL : B ≤ wl.heap.size := Nat.le_trans LS.out.1.dB (Nat.le_of_lt LS.out.1.box.lt)
                        have HTK : Hid (([] : Bys) ++ mkB next (b.take (j + 1)) = (([] : Bys) ++ mkB next (b.take j)) ++ [(x, next + (j : Int))]) := Lib.hid (by
                          rw [List.take_add_one, hx, Option.toList_some, mkB_snoc, List.length_take, HM.out, Nat.min_eq_left hj, List.append_assoc])
                        have HZ : Hid (byC (([] : Bys) ++ mkB next (b.take j)) ++ byL (x, next + (j : Int)) = byC (([] : Bys) ++ mkB next (b.take (j + 1)))) := Lib.hid (by rw [byC_snoc, HTK.out])
                        have FIN : Hid (∀ W, Below wl.heap.size wl W → ∀ a1 c1 w4, Own w4 B 57 2 a1 (L + 1) c1 (byC (([] : Bys) ++ mkB next (b.take (j + 1)))) → W.grownBy w4 (A.map (·.block)) → (∀ g, a1 = some ⟨g, 0, none⟩ → A.map (·.block) = some g ∨ W.heap.size ≤ g) →
                            Rm (w4.setCell ⟨gs, i * 2 + 1, none⟩ (.slice a1 (L + 1) c1)) B d (some ⟨gs, 0, none⟩) c3 (R1.set i (n, ([] : Bys) ++ mkB next (b.take (j + 1)))) (setV V2 n a1 c1) most (next + (j : Int)) f1 f2 ∧ TurnR d sa R V w (some ⟨gs, 0, none⟩) (R1.set i (n, ([] : Bys) ++ mkB next (b.take (j + 1)))) (setV V2 n a1 c1) (w4.setCell ⟨gs, i * 2 + 1, none⟩ (.slice a1 (L + 1) c1))) := Lib.hid (fun W hW a1 c1 w4 h1 h2 h3 => by
                          have k0 := (LS.out.1.later hW).putby R1K2.out (by rw [HTK.out, List.length_append, HLN.out]; rfl) h1 (by rw [hA]; exact h2) (by rw [hA]; exact h3)
                          rw [List.set_set] at k0
                          exact ⟨k0.1, (LS.out.2.trans (TurnR.refl hW)).trans k0.2⟩)
                        have NXT : Hid (∀ V3 W, Rm W B d (some ⟨gs, 0, none⟩) c3 (R1.set i (n, ([] : Bys) ++ mkB next (b.take (j + 1)))) V3 most (next + (j : Int)) f1 f2 ∧ TurnR d sa R V w (some ⟨gs, 0, none⟩) (R1.set i (n, ([] : Bys) ++ mkB next (b.take (j + 1)))) V3 W →
                            Rm (W.setCell ⟨d, 2, none⟩ (.int .i64 (next + ((j + 1 : Nat) : Int)))) B d (some ⟨gs, 0, none⟩) c3 (R1.set i (n, ([] : Bys) ++ mkB next (b.take (j + 1)))) V3 most (next + ((j + 1 : Nat) : Int)) f1 f2 ∧ TurnR d sa R V w (some ⟨gs, 0, none⟩) (R1.set i (n, ([] : Bys) ++ mkB next (b.take (j + 1)))) V3 (W.setCell ⟨d, 2, none⟩ (.int .i64 (next + ((j + 1 : Nat) : Int))))) := Lib.hid (fun V3 W hh => by
                          have k0 := hh.1.cells (w' := W.setCell ⟨d, 2, none⟩ (.int .i64 (next + ((j + 1 : Nat) : Int)))) (next' := next + ((j + 1 : Nat) : Int)) (first' := f1) (fails' := f2) (hh.1.box.set 2 _) ((Only.refl (fun y => y = d) _).setCell (Or.inl rfl) _) hh.1.fiB hh.1.faB hh.1.fi0 hh.1.fa0
                          exact ⟨k0.1, hh.2.trans k0.2⟩)
                        have hj0 : (0 : Int) ≤ (j : Int) := by omega
                        have hj1 : (j : Int) < (m : Int) := by omega
                        clear hx hbg hA hC hL BC0 RWS hng hgl HTK HLN R1K2
                        go_wp2_with fail
                        go_upto_region 16 with fail
                        refine wp_region_last 26 (fun w' => wl.grownBy w' (A.map (·.block))) (by kernel_rfl) (gb_refl _ _) (fun hHeld hClosed => ?_)
                        have BW := Lib.hid ((Below.refl wl.heap.size wl).drew)
                        generalize wl.drew = wc at BW hHeld ⊢
                        refine wpAnyL_take (i := 0) (v := ?_) rfl (by kernel_rfl) (by kernel_rfl) (by kernel_rfl) (by kernel_rfl) (fun _ _ _ h => h) (by kernel_rfl) hClosed (Or.inl ⟨by rfl, ?_⟩) hHeld (fun hClosed => ?_)
                        rotate_left
                        · intro wv hSw; go_simp; all_goals (with_reducible rfl)
                        (try simp only [List.getElem_toArray, List.getElem_cons_zero, put_at, List.set])
                        refine wpAnyL_take (i := 1) (v := ?_) rfl (by kernel_rfl) (by kernel_rfl) (by kernel_rfl) (by kernel_rfl) (fun _ _ _ h => h) (by kernel_rfl) hClosed (Or.inl ⟨by rfl, ?_⟩) hHeld (fun hClosed => ?_)
                        rotate_left
                        · intro wv hSw; go_simp; all_goals (with_reducible rfl)
                        (try simp only [List.getElem_toArray, List.getElem_cons_succ, List.getElem_cons_zero, put_at, List.set])
                        refine wpAnyL_take (i := 2) (v := ?_) rfl (by kernel_rfl) (by kernel_rfl) (by kernel_rfl) (by kernel_rfl) (fun _ _ _ h => h) (by kernel_rfl) hClosed (Or.inl ⟨by rfl, ?_⟩) hHeld (fun hClosed => ?_)
                        rotate_left
                        · intro wv hSw; go_simp; all_goals (with_reducible rfl)
                        (try simp only [List.getElem_toArray, List.getElem_cons_succ, List.getElem_cons_zero, put_at, List.set])
                        refine wpAnyL_take (i := 3) (v := ?_) rfl (by kernel_rfl) (by kernel_rfl) (by kernel_rfl) (by kernel_rfl) (fun _ _ _ h => h) (by kernel_rfl) hClosed (Or.inl ⟨by rfl, ?_⟩) hHeld (fun hClosed => ?_)
                        rotate_left
                        · intro wv hSw; obtain ⟨o1, o2, o3, o4, o5, o6⟩ := CS.out _ hSw; go_simp; all_goals (with_reducible rfl)
                        (try simp only [List.getElem_toArray, List.getElem_cons_succ, List.getElem_cons_zero, put_at, List.set])
                        refine wpAnyL_take (i := 4) (v := ?_) rfl (by kernel_rfl) (by kernel_rfl) (by kernel_rfl) (by kernel_rfl) (fun _ _ _ h => h) (by kernel_rfl) hClosed (Or.inl ⟨by rfl, ?_⟩) hHeld (fun hClosed => ?_)
                        rotate_left
                        · intro wv hSw; go_simp; all_goals (with_reducible rfl)
                        (try simp only [List.getElem_toArray, List.getElem_cons_succ, List.getElem_cons_zero, put_at, List.set])
                        refine wpAnyL_take (i := 5) (v := ?_) rfl (by kernel_rfl) (by kernel_rfl) (by kernel_rfl) (by kernel_rfl) (fun _ _ _ h => h) (by kernel_rfl) hClosed (Or.inl ⟨by rfl, ?_⟩) hHeld (fun hClosed => ?_)
                        rotate_left
                        · intro wv hSw; go_simp; all_goals (with_reducible rfl)
                        (try simp only [List.getElem_toArray, List.getElem_cons_succ, List.getElem_cons_zero, put_at, List.set])
                        refine wpAnyL_take (i := 6) (v := ?_) rfl (by kernel_rfl) (by kernel_rfl) (by kernel_rfl) (by kernel_rfl) (fun _ _ _ h => h) (by kernel_rfl) hClosed (Or.inl ⟨by rfl, ?_⟩) hHeld (fun hClosed => ?_)
                        rotate_left
                        · intro wv hSw; go_simp; all_goals (with_reducible rfl)
                        (try simp only [List.getElem_toArray, List.getElem_cons_succ, List.getElem_cons_zero, put_at, List.set])
                        refine wpAnyL_take (i := 7) (v := ?_) rfl (by kernel_rfl) (by kernel_rfl) (by kernel_rfl) (by kernel_rfl) (fun _ _ _ h => h) (by kernel_rfl) hClosed (Or.inl ⟨by rfl, ?_⟩) hHeld (fun hClosed => ?_)
                        rotate_left
                        · intro wv hSw; go_simp; all_goals (with_reducible rfl)
                        (try simp only [List.getElem_toArray, List.getElem_cons_succ, List.getElem_cons_zero, put_at, List.set])
                        refine wpAnyL_take (i := 8) (v := ?_) rfl (by kernel_rfl) (by kernel_rfl) (by kernel_rfl) (by kernel_rfl) (fun _ _ _ h => h) (by kernel_rfl) hClosed (Or.inl ⟨by rfl, ?_⟩) hHeld (fun hClosed => ?_)
                        rotate_left
                        · intro wv hSw; obtain ⟨o1, o2, o3, o4, o5, o6⟩ := CS.out _ hSw; go_simp; all_goals (with_reducible rfl)
                        (try simp only [List.getElem_toArray, List.getElem_cons_succ, List.getElem_cons_zero, put_at, List.set])
                        refine wpAnyL_take (i := 9) (v := ?_) rfl (by kernel_rfl) (by kernel_rfl) (by kernel_rfl) (by kernel_rfl) (fun _ _ _ h => h) (by kernel_rfl) hClosed (Or.inl ⟨by rfl, ?_⟩) hHeld (fun hClosed => ?_)
                        rotate_left
                        · intro wv hSw; go_simp; all_goals (with_reducible rfl)
                        (try simp only [List.getElem_toArray, List.getElem_cons_succ, List.getElem_cons_zero, put_at, List.set])
                        refine wpAnyL_take (i := 10) (v := ?_) rfl (by kernel_rfl) (by kernel_rfl) (by kernel_rfl) (by kernel_rfl) (fun _ _ _ h => h) (by kernel_rfl) hClosed (Or.inl ⟨by rfl, ?_⟩) hHeld (fun hClosed => ?_)
                        rotate_left
                        · intro wv hSw; go_simp; all_goals (with_reducible rfl)
                        (try simp only [List.getElem_toArray, List.getElem_cons_succ, List.getElem_cons_zero, put_at, List.set])
                        refine wpAnyL_take (i := 11) (v := ?_) rfl (by kernel_rfl) (by kernel_rfl) (by kernel_rfl) (by kernel_rfl) (fun _ _ _ h => h) (by kernel_rfl) hClosed (Or.inl ⟨by rfl, ?_⟩) hHeld (fun hClosed => ?_)
                        rotate_left
                        · intro wv hSw; go_simp; all_goals (with_reducible rfl)
                        (try simp only [List.getElem_toArray, List.getElem_cons_succ, List.getElem_cons_zero, put_at, List.set])
                        refine wpAnyL_take (i := 12) (v := ?_) rfl (by kernel_rfl) (by kernel_rfl) (by kernel_rfl) (by kernel_rfl) (fun _ _ _ h => h) (by kernel_rfl) hClosed (Or.inl ⟨by rfl, ?_⟩) hHeld (fun hClosed => ?_)
                        rotate_left
                        · intro wv hSw; obtain ⟨o1, o2, o3, o4, o5, o6⟩ := CS.out _ hSw; go_simp; all_goals (with_reducible rfl)
                        (try simp only [List.getElem_toArray, List.getElem_cons_succ, List.getElem_cons_zero, put_at, List.set])
                        refine wpAnyL_take (i := 13) (v := ?_) rfl (by kernel_rfl) (by kernel_rfl) (by kernel_rfl) (by kernel_rfl) (fun _ _ _ h => h) (by kernel_rfl) hClosed (Or.inl ⟨by rfl, ?_⟩) hHeld (fun hClosed => ?_)
                        rotate_left
                        · intro wv hSw; go_simp; all_goals (with_reducible rfl)
                        (try simp only [List.getElem_toArray, List.getElem_cons_succ, List.getElem_cons_zero, put_at, List.set])
                        refine wpAnyL_take (i := 14) (v := ?_) rfl (by kernel_rfl) (by kernel_rfl) (by kernel_rfl) (by kernel_rfl) (fun _ _ _ h => h) (by kernel_rfl) hClosed (Or.inl ⟨by rfl, ?_⟩) hHeld (fun hClosed => ?_)
                        rotate_left
                        · intro wv hSw; go_simp; all_goals (with_reducible rfl)
                        (try simp only [List.getElem_toArray, List.getElem_cons_succ, List.getElem_cons_zero, put_at, List.set])
                        refine wpAnyL_take (i := 15) (v := ?_) rfl (by kernel_rfl) (by kernel_rfl) (by kernel_rfl) (by kernel_rfl) (fun _ _ _ h => h) (by kernel_rfl) hClosed (Or.inl ⟨by rfl, ?_⟩) hHeld (fun hClosed => ?_)
                        rotate_left
                        · intro wv hSw; go_simp; all_goals (with_reducible rfl)
                        (try simp only [List.getElem_toArray, List.getElem_cons_succ, List.getElem_cons_zero, put_at, List.set])
                        refine wpAnyL_take (i := 16) (v := ?_) rfl (by kernel_rfl) (by kernel_rfl) (by kernel_rfl) (by kernel_rfl) (fun _ _ _ h => h) (by kernel_rfl) hClosed (Or.inl ⟨by rfl, ?_⟩) hHeld (fun hClosed => ?_)
                        rotate_left
                        · intro wv hSw; obtain ⟨o1, o2, o3, o4, o5, o6⟩ := CS.out _ hSw; go_simp; all_goals (with_reducible rfl)
                        (try simp only [List.getElem_toArray, List.getElem_cons_succ, List.getElem_cons_zero, put_at, List.set])
                        refine wpAnyL_take (i := 17) (v := ?_) rfl (by kernel_rfl) (by kernel_rfl) (by kernel_rfl) (by kernel_rfl) (fun _ _ _ h => h) (by kernel_rfl) hClosed (Or.inl ⟨by rfl, ?_⟩) hHeld (fun hClosed => ?_)
                        rotate_left
                        · intro wv hSw; go_simp; all_goals (with_reducible rfl)
                        (try simp only [List.getElem_toArray, List.getElem_cons_succ, List.getElem_cons_zero, put_at, List.set])
                        refine wpAnyL_take (i := 18) (v := ?_) rfl (by kernel_rfl) (by kernel_rfl) (by kernel_rfl) (by kernel_rfl) (fun _ _ _ h => h) (by kernel_rfl) hClosed (Or.inl ⟨by rfl, ?_⟩) hHeld (fun hClosed => ?_)
                        rotate_left
                        · intro wv hSw; go_simp; all_goals (with_reducible rfl)
                        (try simp only [List.getElem_toArray, List.getElem_cons_succ, List.getElem_cons_zero, put_at, List.set])
                        refine wpAnyL_take (i := 19) (v := ?_) rfl (by kernel_rfl) (by kernel_rfl) (by kernel_rfl) (by kernel_rfl) (fun _ _ _ h => h) (by kernel_rfl) hClosed (Or.inl ⟨by rfl, ?_⟩) hHeld (fun hClosed => ?_)
                        rotate_left
                        · intro wv hSw; go_simp; all_goals (with_reducible rfl)
                        (try simp only [List.getElem_toArray, List.getElem_cons_succ, List.getElem_cons_zero, put_at, List.set])
                        refine wpAnyL_take (i := 20) (v := ?_) rfl (by kernel_rfl) (by kernel_rfl) (by kernel_rfl) (by kernel_rfl) (fun _ _ _ h => h) (by kernel_rfl) hClosed (Or.inl ⟨by rfl, ?_⟩) hHeld (fun hClosed => ?_)
                        rotate_left
                        · intro wv hSw; obtain ⟨o1, o2, o3, o4, o5, o6⟩ := CS.out _ hSw; go_simp; all_goals (with_reducible rfl)
                        (try simp only [List.getElem_toArray, List.getElem_cons_succ, List.getElem_cons_zero, put_at, List.set])
                        refine wpAnyL_take (i := 21) (v := ?_) rfl (by kernel_rfl) (by kernel_rfl) (by kernel_rfl) (by kernel_rfl) (fun _ _ _ h => h) (by kernel_rfl) hClosed (Or.inl ⟨by rfl, ?_⟩) hHeld (fun hClosed => ?_)
                        rotate_left
                        · intro wv hSw; go_simp; all_goals (with_reducible rfl)
                        (try simp only [List.getElem_toArray, List.getElem_cons_succ, List.getElem_cons_zero, put_at, List.set])
                        refine wpAnyL_one (i := 22) rfl (by kernel_rfl) (by kernel_rfl) hClosed (fun KK hK => ?_)
                        go_simp
                        obtain ⟨wc1, be, hw1, hb1, L1, ce, X1⟩ := newEl #[.int .u8 x, .int .i64 (next + (j : Int))] 57 (Below.refl wc.heap.size wc)
                        rw [hw1, hb1]
                        refine hK.out _ _ ?_ (fun hClosed hHeld => ?_)
                        · exact gb_later hHeld X1
                        clear hK KK
                        (first | simp only [List.getElem_toArray, List.getElem_cons_succ, List.getElem_cons_zero, put_at, List.set] | (try simp only [put_at, List.set]))
                        have CE := Lib.hid ce
                        have BW2 := Lib.hid (BW.out.trans (X1.mono BW.out.size))
                        have RW := Lib.hid (LS.out.1.later BW2.out)
                        have OE := Lib.hid (OES.out _ BW2.out)
                        have szB : B ≤ wc1.heap.size := Nat.le_trans szL BW2.out.size
                        clear ce L1 X1 hw1 hb1 BW OES
                        refine wpAnyL_one (i := 23) rfl (by kernel_rfl) (by kernel_rfl) hClosed (fun KK hK => ?_)
                        refine step_appE rowBy rfl _ _ rfl B A L C (byC (([] : Bys) ++ mkB next (b.take j))) rfl OE.out (some ⟨be, 0, none⟩) 1 1 (byL (x, next + (j : Int))) rfl rfl CE.out.rd (byL_one _) (by omega) (by decide) szB (L + 1) rfl (byC (([] : Bys) ++ mkB next (b.take (j + 1)))) HZ.out ?_
                        rintro a1 c1 w4 q1 q2 q3 q4
                        refine hK.out _ _ ?_ (fun hClosed hHeld => ?_)
                        · exact gb_trans hHeld q2
                        clear hK KK
                        (first | simp only [List.getElem_toArray, List.getElem_cons_succ, List.getElem_cons_zero, put_at, List.set] | (try simp only [put_at, List.set]))
                        have GF := Lib.hid (GFS.out w4 hHeld)
                        have FF := Lib.hid (FIN.out wc1 BW2.out a1 c1 w4 q1 q2 q4)
                        clear q1 q2 q3 q4 CE OE RW FIN
                        refine wpAnyL_take (i := 24) (v := ?_) rfl (by kernel_rfl) (by kernel_rfl) (by kernel_rfl) (by kernel_rfl) (fun _ _ _ h => h) (by kernel_rfl) hClosed (Or.inl ⟨by rfl, ?_⟩) hHeld (fun hClosed => ?_)
                        rotate_left
                        · intro wv hSw; go_simp; all_goals (with_reducible rfl)
                        (try simp only [List.getElem_toArray, List.getElem_cons_succ, List.getElem_cons_zero, put_at, List.set])
                        refine wpAnyL_take (i := 25) (v := ?_) rfl (by kernel_rfl) (by kernel_rfl) (by kernel_rfl) (by kernel_rfl) (fun _ _ _ h => h) (by kernel_rfl) hClosed (Or.inl ⟨by rfl, ?_⟩) hHeld (fun hClosed => ?_)
                        rotate_left
                        · intro wv hSw; go_simp; all_goals (with_reducible rfl)
                        (try simp only [List.getElem_toArray, List.getElem_cons_succ, List.getElem_cons_zero, put_at, List.set])
                        refine wpAnyL_last rfl (by kernel_rfl) (by kernel_rfl) (fun KK hK => ?_)
                        obtain ⟨e9, f9, l9⟩ := GF.out
                        go_simp
                        refine hK.out _ _ ?_
                        (try simp only [put_at, List.set])
                        have nb := FF.out.1.box
                        have n2 := nb.cell 2
                        have n2f := nb.free 2
                        have nl := nb.lt
                        have NX2 := Lib.hid (NXT.out _ _ FF.out)
                        clear FF GF nb
                        generalize w4.setCell ⟨gs, i * 2 + 1, none⟩ (.slice a1 (L + 1) c1) = wg at n2 n2f nl NX2 ⊢
                        have hww : IntKind.i64.wrap (next + (j : Int) + 1) = next + ((j + 1 : Nat) : Int) := by rw [IntWalk.i64_in _ (by omega)]; omega
                        go_wp2
                        go_roundw
                        case rel => exact ⟨j + 1, _, by omega, by go_num, NX2⟩
                        case measure => exact cra_ms m j hlt
                      · have hjd : decide ((j : Int) < (m : Int)) = false := decide_eq_false (by omega)
                        obtain rfl : j = m := by omega
                        have FF := Lib.hid (ENDL.out V2 wl LS.out)
                        clear LS
                        go_wp2
                        go_ret
                        exact FF.out

                  · go_simp
                    obtain ⟨wc2, be, hw2, hb2, L2, ce, X2⟩ := newEl #[.int .i64 n, .slice none 0 0] 45 hHeld
                    rw [hw2, hb2]
                    refine hK.out _ _ ?_ (fun hClosed hHeld => ?_)
                    · exact L2
                    clear hK KK
                    (first | simp only [List.getElem_toArray, List.getElem_cons_succ, List.getElem_cons_zero, put_at, List.set] | (try simp only [put_at, List.set]))
                    have CE := Lib.hid ce
                    have NE : Hid (((some ⟨ba, 0, none⟩) : Option Addr).map (·.block) ≠ some be) := Lib.hid (fun e => by have h1 := (own_lt OE.out (own_block5 OE.out e)).1; omega)
                    have OE2 := Lib.hid (OE.out.later X2)
                    clear OE
                    have OE := OE2
                    clear OE2
                    clear ce L2 X2 hw2 hb2
                    refine wpAnyL_one (i := 8) rfl (by kernel_rfl) (by kernel_rfl) hClosed (fun KK hK => ?_)
                    refine step_appE rowSg rfl _ _ rfl w2.heap.size (some ⟨ba, 0, none⟩) 0 0 ([]) rfl OE.out sa i sc (sgC V (R.take i)) rfl LT.out (RD1.out _ hHeld) (sgC_one V _) (by omega) (by decide) hHeld.size i (by omega) (sgC V (R.take i)) rfl ?_
                    rintro a1 c1 w4 q1 q2 q3 q4
                    refine hK.out _ _ ?_ (fun hClosed hHeld => ?_)
                    · exact hHeld.trans q3
                    clear hK KK
                    (first | simp only [List.getElem_toArray, List.getElem_cons_succ, List.getElem_cons_zero, put_at, List.set] | (try simp only [put_at, List.set]))
                    have CE2 := Lib.hid (CE.out.grown q2 NE.out)
                    have NE2 : Hid ((a1 : Option Addr).map (·.block) ≠ some be) := Lib.hid (fun e => by rcases q4 be (own_block5 q1 e) with h | h; exact NE.out h; have h1 := CE.out.hi; omega)
                    clear CE NE
                    have CE := CE2
                    have NE := NE2
                    clear CE2 NE2
                    clear OE
                    have OE := Lib.hid q1
                    clear q1 q2 q3 q4
                    refine wpAnyL_one (i := 12) rfl (by kernel_rfl) (by kernel_rfl) hClosed (fun KK hK => ?_)
                    refine step_appE rowSg rfl _ _ rfl w2.heap.size a1 i c1 (sgC V (R.take i)) rfl OE.out (some ⟨be, 0, none⟩) 1 1 ([.int .i64 n, .slice none 0 0]) rfl rfl (CE.out.rd) (new_one n) (by omega) (by decide) hHeld.size (i + 1) (by omega) (sgC V (R.take i) ++ [.int .i64 n, .slice none 0 0]) rfl ?_
                    rintro a2 c2 w5 q1 q2 q3 q4
                    refine hK.out _ _ ?_ (fun hClosed hHeld => ?_)
                    · exact hHeld.trans q3
                    clear hK KK
                    (first | simp only [List.getElem_toArray, List.getElem_cons_succ, List.getElem_cons_zero, put_at, List.set] | (try simp only [put_at, List.set]))
                    clear OE CE NE
                    have OE := Lib.hid q1
                    clear q1 q2 q3 q4
                    refine wpAnyL_one (i := 19) rfl (by kernel_rfl) (by kernel_rfl) hClosed (fun KK hK => ?_)
                    refine step_appE rowSg rfl _ _ rfl w2.heap.size a2 (i + 1) c2 (sgC V (R.take i) ++ [.int .i64 n, .slice none 0 0]) rfl OE.out b2 (K - i) (sc - i) (sgC V (R.drop i)) rfl LD.out (RD2.out _ hHeld) (sgC_one V _) (by omega) (by decide) hHeld.size (K + 1) (by omega) (sgC V (R.take i) ++ [.int .i64 n, .slice none 0 0] ++ sgC V (R.drop i)) rfl ?_
                    rintro a3 c3 w6 q1 q2 q3 q4
                    refine hK.out _ _ ?_ (fun hClosed hHeld => ?_)
                    · exact hHeld.trans q3
                    clear hK KK
                    (first | simp only [List.getElem_toArray, List.getElem_cons_succ, List.getElem_cons_zero, put_at, List.set] | (try simp only [put_at, List.set]))
                    have FF := Lib.hid (FIN.out a3 c3 w6 q1 hHeld)
                    clear q1 q2 q3 q4 OE FIN
                    refine wpAnyL_take (i := 20) (v := ?_) rfl (by kernel_rfl) (by kernel_rfl) (by kernel_rfl) (by kernel_rfl) (fun _ _ _ h => h) (by kernel_rfl) hClosed (Or.inl ⟨by rfl, ?_⟩) hHeld (fun hClosed => ?_)
                    rotate_left
                    · intro wv hSw; go_simp; all_goals (with_reducible rfl)
                    (try simp only [List.getElem_toArray, List.getElem_cons_succ, List.getElem_cons_zero, put_at, List.set])
                    refine wpAnyL_take (i := 21) (v := ?_) rfl (by kernel_rfl) (by kernel_rfl) (by kernel_rfl) (by kernel_rfl) (fun _ _ _ h => h) (by kernel_rfl) hClosed (Or.inl ⟨by rfl, ?_⟩) hHeld (fun hClosed => ?_)
                    rotate_left
                    · intro wv hSw; go_simp; all_goals (with_reducible rfl)
                    (try simp only [List.getElem_toArray, List.getElem_cons_succ, List.getElem_cons_zero, put_at, List.set])
                    refine wpAnyL_last rfl (by kernel_rfl) (by kernel_rfl) (fun KK hK => ?_)
                    have e9 := (BX2.out.later hHeld).cell 1
                    have f9 := (BX2.out.later hHeld).free 1
                    have l9 := (BX2.out.later hHeld).lt
                    go_simp
                    refine hK.out _ _ ?_
                    (try simp only [put_at, List.set])
                    obtain ⟨gs, rfl, ls0⟩ := FF.out
                    have LS0 := Lib.hid ls0
                    clear ls0 FF
                    generalize w6.setCell ⟨d, 1, none⟩ (.slice (some ⟨gs, 0, none⟩) (K + 1) c3) = w7 at LS0 ⊢
                    clear LT LD HKC HNC HU RD1 RD2 BX2 e9 f9 l9
                    have ENDL := Lib.hid (ENDL0.out c3 gs)
                    go_wp2_with fail
                    go_loopw [8] (fun vj wr => ∃ (j : Nat) (V2 : VF), j ≤ m ∧ vj = .int .i64 (j : Int) ∧ Hid (Rm wr B d (some ⟨gs, 0, none⟩) c3 (R1.set i (n, ([] : Bys) ++ mkB next (b.take j))) V2 most (next + (j : Int)) f1 f2 ∧ TurnR d sa R V w (some ⟨gs, 0, none⟩) (R1.set i (n, ([] : Bys) ++ mkB next (b.take j))) V2 wr)) (fun vj _ => m - (vI vj).toNat)
                    case atStart => exact ⟨0, (setV V n none 0), by omega, rfl, LS0⟩
                    case round =>
                      obtain ⟨j, V2, hj, rfl, LS⟩ := hrel
                      clear LS0
                      obtain ⟨wl, rfl⟩ : ∃ W, W = wr := ⟨_, rfl⟩
                      have hcb : (m : Int) ≤ 100000 := by omega
                      by_cases hlt : j < m
                      · have hjd : decide ((j : Int) < (m : Int)) = true := decide_eq_true (by omega)
                        obtain ⟨x, hx⟩ : ∃ x, b[j]? = some x := ⟨_, List.getElem?_eq_getElem (by rw [HM.out]; exact hlt)⟩
                        have R1K2 : Hid ((R1.set i (n, ([] : Bys) ++ mkB next (b.take j)))[i]? = some (n, ([] : Bys) ++ mkB next (b.take j))) := Lib.hid (List.getElem?_set_self (List.getElem?_eq_some_iff.1 R1K.out).1)
                        have HLN : Hid ((([] : Bys) ++ mkB next (b.take j)).length = 0 + j) := Lib.hid (by rw [List.length_append, mkB_len, List.length_take, HL0.out, HM.out]; omega)
                        obtain ⟨L, hL⟩ : ∃ L, 0 + j = L := ⟨_, rfl⟩
                        have hL2 : L + 1 ≤ 2048 := by omega
                        rw [hL] at HLN
                        obtain ⟨A, hA⟩ : ∃ A, (V2 n).1 = A := ⟨_, rfl⟩
                        obtain ⟨C, hC⟩ : ∃ C, (V2 n).2 = C := ⟨_, rfl⟩
                        have RWS : Hid (Own wl B 57 2 A L C (byC (([] : Bys) ++ mkB next (b.take j)))) := Lib.hid (by have h9 := LS.out.1.rows n _ (List.mem_of_getElem? R1K2.out); rw [hA, hC, HLN.out] at h9; exact h9)
                        have OES : Hid (∀ W, Below wl.heap.size wl W → Own W B 57 2 A L C (byC (([] : Bys) ++ mkB next (b.take j)))) := Lib.hid (fun W hW => RWS.out.later hW)
                        obtain ⟨ga, og, habe, hbg⟩ := HR.out j (.int .u8 x) (by unfold u8L; rw [List.getElem?_map, hx]; rfl)
                        have hng : ¬ MineR d sa R V ga := HNM.out ga og habe (fun e => by rw [e] at hx; simp at hx)
                        have hgl : ga < w.heap.size := World.block_lt_of_cell? _ _ hbg
                        subst habe
                        have BC0 : Hid (wl.cell? ⟨ga, og + j, none⟩ = some (.int .u8 x) ∧ ga < wl.heap.size ∧ some ga ≠ A.map (·.block)) := Lib.hid ⟨(cell_blk (LS.out.2.1.block ga hgl hng) _).trans hbg, Nat.lt_of_lt_of_le hgl LS.out.2.1.size, fun e => by
                          have h8 := own_block5 RWS.out e.symm
                          rcases LS.out.2.2 ga (Or.inr (Or.inr ⟨n, _, List.mem_of_getElem? R1K2.out, by rw [hA]; exact h8⟩)) with h9 | h9
                          · exact hng h9
                          · omega⟩
                        have CS : Hid (∀ W, wl.grownBy W (A.map (·.block)) → W.cell? ⟨d, 1, none⟩ = some (.slice (some ⟨gs, 0, none⟩) K1 c3) ∧ W.cell? ⟨gs, i * 2 + 1, none⟩ = some (.slice A L C) ∧ W.cell? ⟨ga, og + j, none⟩ = some (.int .u8 x) ∧ W.cell? ⟨d, 2, none⟩ = some (.int .i64 (next + (j : Int))) ∧ d < W.heap.size ∧ W.frozen? ⟨gs, i * 2 + 1, none⟩ = false) := Lib.hid (fun W hW => by
                          have hd : some d ≠ A.map (·.block) := fun e => by
                            have h9 := own_block5 RWS.out e.symm
                            have h8 := RWS.out
                            rw [h9] at h8
                            exact own_not_box h8 LS.out.1.box (by decide) rfl
                          have hs : some gs ≠ A.map (·.block) := fun e => own_apart LS.out.1.own RWS.out rfl (own_block5 RWS.out e.symm) (by decide)
                          have q1 := LS.out.1.box.cell 1
                          have q2 := LS.out.1.box.cell 2
                          rw [List.length_set, HK9.out] at q1
                          have q3 := LS.out.1.own.cell ((two_get (sgL V2) (sgL_len V2) R1K2.out).2.trans rfl)
                          rw [hA, hC, HLN.out] at q3
                          have o9 := LS.out.1.own.blocks (w' := W) (fun g e => by injection e with e; injection e with e; subst e; exact hW.block _ LS.out.1.own.lt.2 hs)
                          exact ⟨(cell_blk (hW.block d LS.out.1.box.lt hd) _).trans q1, (cell_blk (hW.block gs LS.out.1.own.lt.2 hs) _).trans q3, (cell_blk (hW.block ga BC0.out.2.1 BC0.out.2.2) _).trans BC0.out.1, (cell_blk (hW.block d LS.out.1.box.lt hd) _).trans q2, Nat.lt_of_lt_of_le LS.out.1.box.lt hW.size, o9.free _⟩)
                        have GFS : Hid (∀ W, wl.grownBy W (A.map (·.block)) → W.cell? ⟨gs, i * 2 + 1, none⟩ = some (.slice A L C) ∧ W.frozen? ⟨gs, i * 2 + 1, none⟩ = false ∧ gs < W.heap.size) := Lib.hid (fun W hW => by
                          obtain ⟨_, z1, _, _, _, z2⟩ := CS.out W hW
                          exact ⟨z1, z2, World.block_lt_of_cell? _ _ z1⟩)
                        have szL : B ≤ wl.heap.size := Nat.le_trans LS.out.1.dB (Nat.le_of_lt LS.out.1.box.lt)
                        have HTK : Hid (([] : Bys) ++ mkB next (b.take (j + 1)) = (([] : Bys) ++ mkB next (b.take j)) ++ [(x, next + (j : Int))]) := Lib.hid (by
                          rw [List.take_add_one, hx, Option.toList_some, mkB_snoc, List.length_take, HM.out, Nat.min_eq_left hj, List.append_assoc])
                        have HZ : Hid (byC (([] : Bys) ++ mkB next (b.take j)) ++ byL (x, next + (j : Int)) = byC (([] : Bys) ++ mkB next (b.take (j + 1)))) := Lib.hid (by rw [byC_snoc, HTK.out])
                        have FIN : Hid (∀ W, Below wl.heap.size wl W → ∀ a1 c1 w4, Own w4 B 57 2 a1 (L + 1) c1 (byC (([] : Bys) ++ mkB next (b.take (j + 1)))) → W.grownBy w4 (A.map (·.block)) → (∀ g, a1 = some ⟨g, 0, none⟩ → A.map (·.block) = some g ∨ W.heap.size ≤ g) →
                            Rm (w4.setCell ⟨gs, i * 2 + 1, none⟩ (.slice a1 (L + 1) c1)) B d (some ⟨gs, 0, none⟩) c3 (R1.set i (n, ([] : Bys) ++ mkB next (b.take (j + 1)))) (setV V2 n a1 c1) most (next + (j : Int)) f1 f2 ∧ TurnR d sa R V w (some ⟨gs, 0, none⟩) (R1.set i (n, ([] : Bys) ++ mkB next (b.take (j + 1)))) (setV V2 n a1 c1) (w4.setCell ⟨gs, i * 2 + 1, none⟩ (.slice a1 (L + 1) c1))) := Lib.hid (fun W hW a1 c1 w4 h1 h2 h3 => by
                          have k0 := (LS.out.1.later hW).putby R1K2.out (by rw [HTK.out, List.length_append, HLN.out]; rfl) h1 (by rw [hA]; exact h2) (by rw [hA]; exact h3)
                          rw [List.set_set] at k0
                          exact ⟨k0.1, (LS.out.2.trans (TurnR.refl hW)).trans k0.2⟩)
                        have NXT : Hid (∀ V3 W, Rm W B d (some ⟨gs, 0, none⟩) c3 (R1.set i (n, ([] : Bys) ++ mkB next (b.take (j + 1)))) V3 most (next + (j : Int)) f1 f2 ∧ TurnR d sa R V w (some ⟨gs, 0, none⟩) (R1.set i (n, ([] : Bys) ++ mkB next (b.take (j + 1)))) V3 W →
                            Rm (W.setCell ⟨d, 2, none⟩ (.int .i64 (next + ((j + 1 : Nat) : Int)))) B d (some ⟨gs, 0, none⟩) c3 (R1.set i (n, ([] : Bys) ++ mkB next (b.take (j + 1)))) V3 most (next + ((j + 1 : Nat) : Int)) f1 f2 ∧ TurnR d sa R V w (some ⟨gs, 0, none⟩) (R1.set i (n, ([] : Bys) ++ mkB next (b.take (j + 1)))) V3 (W.setCell ⟨d, 2, none⟩ (.int .i64 (next + ((j + 1 : Nat) : Int))))) := Lib.hid (fun V3 W hh => by
                          have k0 := hh.1.cells (w' := W.setCell ⟨d, 2, none⟩ (.int .i64 (next + ((j + 1 : Nat) : Int)))) (next' := next + ((j + 1 : Nat) : Int)) (first' := f1) (fails' := f2) (hh.1.box.set 2 _) ((Only.refl (fun y => y = d) _).setCell (Or.inl rfl) _) hh.1.fiB hh.1.faB hh.1.fi0 hh.1.fa0
                          exact ⟨k0.1, hh.2.trans k0.2⟩)
                        have hj0 : (0 : Int) ≤ (j : Int) := by omega
                        have hj1 : (j : Int) < (m : Int) := by omega
                        clear hx hbg hA hC hL BC0 RWS hng hgl HTK HLN R1K2
                        go_wp2_with fail
                        go_upto_region 16 with fail
                        refine wp_region_last 26 (fun w' => wl.grownBy w' (A.map (·.block))) (by kernel_rfl) (gb_refl _ _) (fun hHeld hClosed => ?_)
                        have BW := Lib.hid ((Below.refl wl.heap.size wl).drew)
                        generalize wl.drew = wc at BW hHeld ⊢
                        refine wpAnyL_take (i := 0) (v := ?_) rfl (by kernel_rfl) (by kernel_rfl) (by kernel_rfl) (by kernel_rfl) (fun _ _ _ h => h) (by kernel_rfl) hClosed (Or.inl ⟨by rfl, ?_⟩) hHeld (fun hClosed => ?_)
                        rotate_left
                        · intro wv hSw; go_simp; all_goals (with_reducible rfl)
                        (try simp only [List.getElem_toArray, List.getElem_cons_zero, put_at, List.set])
                        refine wpAnyL_take (i := 1) (v := ?_) rfl (by kernel_rfl) (by kernel_rfl) (by kernel_rfl) (by kernel_rfl) (fun _ _ _ h => h) (by kernel_rfl) hClosed (Or.inl ⟨by rfl, ?_⟩) hHeld (fun hClosed => ?_)
                        rotate_left
                        · intro wv hSw; go_simp; all_goals (with_reducible rfl)
                        (try simp only [List.getElem_toArray, List.getElem_cons_succ, List.getElem_cons_zero, put_at, List.set])
                        refine wpAnyL_take (i := 2) (v := ?_) rfl (by kernel_rfl) (by kernel_rfl) (by kernel_rfl) (by kernel_rfl) (fun _ _ _ h => h) (by kernel_rfl) hClosed (Or.inl ⟨by rfl, ?_⟩) hHeld (fun hClosed => ?_)
                        rotate_left
                        · intro wv hSw; go_simp; all_goals (with_reducible rfl)
                        (try simp only [List.getElem_toArray, List.getElem_cons_succ, List.getElem_cons_zero, put_at, List.set])
                        refine wpAnyL_take (i := 3) (v := ?_) rfl (by kernel_rfl) (by kernel_rfl) (by kernel_rfl) (by kernel_rfl) (fun _ _ _ h => h) (by kernel_rfl) hClosed (Or.inl ⟨by rfl, ?_⟩) hHeld (fun hClosed => ?_)
                        rotate_left
                        · intro wv hSw; obtain ⟨o1, o2, o3, o4, o5, o6⟩ := CS.out _ hSw; go_simp; all_goals (with_reducible rfl)
                        (try simp only [List.getElem_toArray, List.getElem_cons_succ, List.getElem_cons_zero, put_at, List.set])
                        refine wpAnyL_take (i := 4) (v := ?_) rfl (by kernel_rfl) (by kernel_rfl) (by kernel_rfl) (by kernel_rfl) (fun _ _ _ h => h) (by kernel_rfl) hClosed (Or.inl ⟨by rfl, ?_⟩) hHeld (fun hClosed => ?_)
                        rotate_left
                        · intro wv hSw; go_simp; all_goals (with_reducible rfl)
                        (try simp only [List.getElem_toArray, List.getElem_cons_succ, List.getElem_cons_zero, put_at, List.set])
                        refine wpAnyL_take (i := 5) (v := ?_) rfl (by kernel_rfl) (by kernel_rfl) (by kernel_rfl) (by kernel_rfl) (fun _ _ _ h => h) (by kernel_rfl) hClosed (Or.inl ⟨by rfl, ?_⟩) hHeld (fun hClosed => ?_)
                        rotate_left
                        · intro wv hSw; go_simp; all_goals (with_reducible rfl)
                        (try simp only [List.getElem_toArray, List.getElem_cons_succ, List.getElem_cons_zero, put_at, List.set])
                        refine wpAnyL_take (i := 6) (v := ?_) rfl (by kernel_rfl) (by kernel_rfl) (by kernel_rfl) (by kernel_rfl) (fun _ _ _ h => h) (by kernel_rfl) hClosed (Or.inl ⟨by rfl, ?_⟩) hHeld (fun hClosed => ?_)
                        rotate_left
                        · intro wv hSw; go_simp; all_goals (with_reducible rfl)
                        (try simp only [List.getElem_toArray, List.getElem_cons_succ, List.getElem_cons_zero, put_at, List.set])
                        refine wpAnyL_take (i := 7) (v := ?_) rfl (by kernel_rfl) (by kernel_rfl) (by kernel_rfl) (by kernel_rfl) (fun _ _ _ h => h) (by kernel_rfl) hClosed (Or.inl ⟨by rfl, ?_⟩) hHeld (fun hClosed => ?_)
                        rotate_left
                        · intro wv hSw; go_simp; all_goals (with_reducible rfl)
                        (try simp only [List.getElem_toArray, List.getElem_cons_succ, List.getElem_cons_zero, put_at, List.set])
                        refine wpAnyL_take (i := 8) (v := ?_) rfl (by kernel_rfl) (by kernel_rfl) (by kernel_rfl) (by kernel_rfl) (fun _ _ _ h => h) (by kernel_rfl) hClosed (Or.inl ⟨by rfl, ?_⟩) hHeld (fun hClosed => ?_)
                        rotate_left
                        · intro wv hSw; obtain ⟨o1, o2, o3, o4, o5, o6⟩ := CS.out _ hSw; go_simp; all_goals (with_reducible rfl)
                        (try simp only [List.getElem_toArray, List.getElem_cons_succ, List.getElem_cons_zero, put_at, List.set])
                        refine wpAnyL_take (i := 9) (v := ?_) rfl (by kernel_rfl) (by kernel_rfl) (by kernel_rfl) (by kernel_rfl) (fun _ _ _ h => h) (by kernel_rfl) hClosed (Or.inl ⟨by rfl, ?_⟩) hHeld (fun hClosed => ?_)
                        rotate_left
                        · intro wv hSw; go_simp; all_goals (with_reducible rfl)
                        (try simp only [List.getElem_toArray, List.getElem_cons_succ, List.getElem_cons_zero, put_at, List.set])
                        refine wpAnyL_take (i := 10) (v := ?_) rfl (by kernel_rfl) (by kernel_rfl) (by kernel_rfl) (by kernel_rfl) (fun _ _ _ h => h) (by kernel_rfl) hClosed (Or.inl ⟨by rfl, ?_⟩) hHeld (fun hClosed => ?_)
                        rotate_left
                        · intro wv hSw; go_simp; all_goals (with_reducible rfl)
                        (try simp only [List.getElem_toArray, List.getElem_cons_succ, List.getElem_cons_zero, put_at, List.set])
                        refine wpAnyL_take (i := 11) (v := ?_) rfl (by kernel_rfl) (by kernel_rfl) (by kernel_rfl) (by kernel_rfl) (fun _ _ _ h => h) (by kernel_rfl) hClosed (Or.inl ⟨by rfl, ?_⟩) hHeld (fun hClosed => ?_)
                        rotate_left
                        · intro wv hSw; go_simp; all_goals (with_reducible rfl)
                        (try simp only [List.getElem_toArray, List.getElem_cons_succ, List.getElem_cons_zero, put_at, List.set])
                        refine wpAnyL_take (i := 12) (v := ?_) rfl (by kernel_rfl) (by kernel_rfl) (by kernel_rfl) (by kernel_rfl) (fun _ _ _ h => h) (by kernel_rfl) hClosed (Or.inl ⟨by rfl, ?_⟩) hHeld (fun hClosed => ?_)
                        rotate_left
                        · intro wv hSw; obtain ⟨o1, o2, o3, o4, o5, o6⟩ := CS.out _ hSw; go_simp; all_goals (with_reducible rfl)
                        (try simp only [List.getElem_toArray, List.getElem_cons_succ, List.getElem_cons_zero, put_at, List.set])
                        refine wpAnyL_take (i := 13) (v := ?_) rfl (by kernel_rfl) (by kernel_rfl) (by kernel_rfl) (by kernel_rfl) (fun _ _ _ h => h) (by kernel_rfl) hClosed (Or.inl ⟨by rfl, ?_⟩) hHeld (fun hClosed => ?_)
                        rotate_left
                        · intro wv hSw; go_simp; all_goals (with_reducible rfl)
                        (try simp only [List.getElem_toArray, List.getElem_cons_succ, List.getElem_cons_zero, put_at, List.set])
                        refine wpAnyL_take (i := 14) (v := ?_) rfl (by kernel_rfl) (by kernel_rfl) (by kernel_rfl) (by kernel_rfl) (fun _ _ _ h => h) (by kernel_rfl) hClosed (Or.inl ⟨by rfl, ?_⟩) hHeld (fun hClosed => ?_)
                        rotate_left
                        · intro wv hSw; go_simp; all_goals (with_reducible rfl)
                        (try simp only [List.getElem_toArray, List.getElem_cons_succ, List.getElem_cons_zero, put_at, List.set])
                        refine wpAnyL_take (i := 15) (v := ?_) rfl (by kernel_rfl) (by kernel_rfl) (by kernel_rfl) (by kernel_rfl) (fun _ _ _ h => h) (by kernel_rfl) hClosed (Or.inl ⟨by rfl, ?_⟩) hHeld (fun hClosed => ?_)
                        rotate_left
                        · intro wv hSw; go_simp; all_goals (with_reducible rfl)
                        (try simp only [List.getElem_toArray, List.getElem_cons_succ, List.getElem_cons_zero, put_at, List.set])
                        refine wpAnyL_take (i := 16) (v := ?_) rfl (by kernel_rfl) (by kernel_rfl) (by kernel_rfl) (by kernel_rfl) (fun _ _ _ h => h) (by kernel_rfl) hClosed (Or.inl ⟨by rfl, ?_⟩) hHeld (fun hClosed => ?_)
                        rotate_left
                        · intro wv hSw; obtain ⟨o1, o2, o3, o4, o5, o6⟩ := CS.out _ hSw; go_simp; all_goals (with_reducible rfl)
                        (try simp only [List.getElem_toArray, List.getElem_cons_succ, List.getElem_cons_zero, put_at, List.set])
                        refine wpAnyL_take (i := 17) (v := ?_) rfl (by kernel_rfl) (by kernel_rfl) (by kernel_rfl) (by kernel_rfl) (fun _ _ _ h => h) (by kernel_rfl) hClosed (Or.inl ⟨by rfl, ?_⟩) hHeld (fun hClosed => ?_)
                        rotate_left
                        · intro wv hSw; go_simp; all_goals (with_reducible rfl)
                        (try simp only [List.getElem_toArray, List.getElem_cons_succ, List.getElem_cons_zero, put_at, List.set])
                        refine wpAnyL_take (i := 18) (v := ?_) rfl (by kernel_rfl) (by kernel_rfl) (by kernel_rfl) (by kernel_rfl) (fun _ _ _ h => h) (by kernel_rfl) hClosed (Or.inl ⟨by rfl, ?_⟩) hHeld (fun hClosed => ?_)
                        rotate_left
                        · intro wv hSw; go_simp; all_goals (with_reducible rfl)
                        (try simp only [List.getElem_toArray, List.getElem_cons_succ, List.getElem_cons_zero, put_at, List.set])
                        refine wpAnyL_take (i := 19) (v := ?_) rfl (by kernel_rfl) (by kernel_rfl) (by kernel_rfl) (by kernel_rfl) (fun _ _ _ h => h) (by kernel_rfl) hClosed (Or.inl ⟨by rfl, ?_⟩) hHeld (fun hClosed => ?_)
                        rotate_left
                        · intro wv hSw; go_simp; all_goals (with_reducible rfl)
                        (try simp only [List.getElem_toArray, List.getElem_cons_succ, List.getElem_cons_zero, put_at, List.set])
                        refine wpAnyL_take (i := 20) (v := ?_) rfl (by kernel_rfl) (by kernel_rfl) (by kernel_rfl) (by kernel_rfl) (fun _ _ _ h => h) (by kernel_rfl) hClosed (Or.inl ⟨by rfl, ?_⟩) hHeld (fun hClosed => ?_)
                        rotate_left
                        · intro wv hSw; obtain ⟨o1, o2, o3, o4, o5, o6⟩ := CS.out _ hSw; go_simp; all_goals (with_reducible rfl)
                        (try simp only [List.getElem_toArray, List.getElem_cons_succ, List.getElem_cons_zero, put_at, List.set])
                        refine wpAnyL_take (i := 21) (v := ?_) rfl (by kernel_rfl) (by kernel_rfl) (by kernel_rfl) (by kernel_rfl) (fun _ _ _ h => h) (by kernel_rfl) hClosed (Or.inl ⟨by rfl, ?_⟩) hHeld (fun hClosed => ?_)
                        rotate_left
                        · intro wv hSw; go_simp; all_goals (with_reducible rfl)
                        (try simp only [List.getElem_toArray, List.getElem_cons_succ, List.getElem_cons_zero, put_at, List.set])
                        refine wpAnyL_one (i := 22) rfl (by kernel_rfl) (by kernel_rfl) hClosed (fun KK hK => ?_)
                        go_simp
                        obtain ⟨wc1, be, hw1, hb1, L1, ce, X1⟩ := newEl #[.int .u8 x, .int .i64 (next + (j : Int))] 57 (Below.refl wc.heap.size wc)
                        rw [hw1, hb1]
                        refine hK.out _ _ ?_ (fun hClosed hHeld => ?_)
                        · exact gb_later hHeld X1
                        clear hK KK
                        (first | simp only [List.getElem_toArray, List.getElem_cons_succ, List.getElem_cons_zero, put_at, List.set] | (try simp only [put_at, List.set]))
                        have CE := Lib.hid ce
                        have BW2 := Lib.hid (BW.out.trans (X1.mono BW.out.size))
                        have RW := Lib.hid (LS.out.1.later BW2.out)
                        have OE := Lib.hid (OES.out _ BW2.out)
                        have szB : B ≤ wc1.heap.size := Nat.le_trans szL BW2.out.size
                        clear ce L1 X1 hw1 hb1 BW OES
                        refine wpAnyL_one (i := 23) rfl (by kernel_rfl) (by kernel_rfl) hClosed (fun KK hK => ?_)
                        refine step_appE rowBy rfl _ _ rfl B A L C (byC (([] : Bys) ++ mkB next (b.take j))) rfl OE.out (some ⟨be, 0, none⟩) 1 1 (byL (x, next + (j : Int))) rfl rfl CE.out.rd (byL_one _) (by omega) (by decide) szB (L + 1) rfl (byC (([] : Bys) ++ mkB next (b.take (j + 1)))) HZ.out ?_
                        rintro a1 c1 w4 q1 q2 q3 q4
                        refine hK.out _ _ ?_ (fun hClosed hHeld => ?_)
                        · exact gb_trans hHeld q2
                        clear hK KK
                        (first | simp only [List.getElem_toArray, List.getElem_cons_succ, List.getElem_cons_zero, put_at, List.set] | (try simp only [put_at, List.set]))
                        have GF := Lib.hid (GFS.out w4 hHeld)
                        have FF := Lib.hid (FIN.out wc1 BW2.out a1 c1 w4 q1 q2 q4)
                        clear q1 q2 q3 q4 CE OE RW FIN
                        refine wpAnyL_take (i := 24) (v := ?_) rfl (by kernel_rfl) (by kernel_rfl) (by kernel_rfl) (by kernel_rfl) (fun _ _ _ h => h) (by kernel_rfl) hClosed (Or.inl ⟨by rfl, ?_⟩) hHeld (fun hClosed => ?_)
                        rotate_left
                        · intro wv hSw; go_simp; all_goals (with_reducible rfl)
                        (try simp only [List.getElem_toArray, List.getElem_cons_succ, List.getElem_cons_zero, put_at, List.set])
                        refine wpAnyL_take (i := 25) (v := ?_) rfl (by kernel_rfl) (by kernel_rfl) (by kernel_rfl) (by kernel_rfl) (fun _ _ _ h => h) (by kernel_rfl) hClosed (Or.inl ⟨by rfl, ?_⟩) hHeld (fun hClosed => ?_)
                        rotate_left
                        · intro wv hSw; go_simp; all_goals (with_reducible rfl)
                        (try simp only [List.getElem_toArray, List.getElem_cons_succ, List.getElem_cons_zero, put_at, List.set])
                        refine wpAnyL_last rfl (by kernel_rfl) (by kernel_rfl) (fun KK hK => ?_)
                        obtain ⟨e9, f9, l9⟩ := GF.out
                        go_simp
                        refine hK.out _ _ ?_
                        (try simp only [put_at, List.set])
                        have nb := FF.out.1.box
                        have n2 := nb.cell 2
                        have n2f := nb.free 2
                        have nl := nb.lt
                        have NX2 := Lib.hid (NXT.out _ _ FF.out)
                        clear FF GF nb
                        generalize w4.setCell ⟨gs, i * 2 + 1, none⟩ (.slice a1 (L + 1) c1) = wg at n2 n2f nl NX2 ⊢
                        have hww : IntKind.i64.wrap (next + (j : Int) + 1) = next + ((j + 1 : Nat) : Int) := by rw [IntWalk.i64_in _ (by omega)]; omega
                        go_wp2
                        go_roundw
                        case rel => exact ⟨j + 1, _, by omega, by go_num, NX2⟩
                        case measure => exact cra_ms m j hlt
                      · have hjd : decide ((j : Int) < (m : Int)) = false := decide_eq_false (by omega)
                        obtain rfl : j = m := by omega
                        have FF := Lib.hid (ENDL.out V2 wl LS.out)
                        clear LS
                        go_wp2
                        go_ret
                        exact FF.out

                · go_simp
                  obtain ⟨wc2, be, hw2, hb2, L2, ce, X2⟩ := newEl #[.int .i64 n, .slice none 0 0] 45 hHeld
                  rw [hw2, hb2]
                  refine hK.out _ _ ?_ (fun hClosed hHeld => ?_)
                  · exact L2
                  clear hK KK
                  (first | simp only [List.getElem_toArray, List.getElem_cons_succ, List.getElem_cons_zero, put_at, List.set] | (try simp only [put_at, List.set]))
                  have CE := Lib.hid ce
                  clear ce L2 X2 hw2 hb2
                  refine wpAnyL_one (i := 1) rfl (by kernel_rfl) (by kernel_rfl) hClosed (fun KK hK => ?_)
                  go_simp
                  obtain ⟨wc1, ba, hw1, hb1, L1, oe, X1⟩ := newS hHeld
                  rw [hw1, hb1]
                  refine hK.out _ _ ?_ (fun hClosed hHeld => ?_)
                  · exact L1
                  clear hK KK
                  (first | simp only [List.getElem_toArray, List.getElem_cons_succ, List.getElem_cons_zero, put_at, List.set] | (try simp only [put_at, List.set]))
                  have OE := Lib.hid oe
                  have CE2 := Lib.hid (CE.out.later X1)
                  have NE : Hid ((some ⟨ba, 0, none⟩ : Option Addr).map (·.block) ≠ some be) := Lib.hid (fun e => by have e2 : ba = be := Option.some.inj e; have h1 := CE.out.hi; omega)
                  clear CE
                  have CE := CE2
                  clear CE2
                  clear oe L1 X1 hw1 hb1
                  refine wpAnyL_one (i := 8) rfl (by kernel_rfl) (by kernel_rfl) hClosed (fun KK hK => ?_)
                  refine step_appE rowSg rfl _ _ rfl w2.heap.size (some ⟨ba, 0, none⟩) 0 0 ([]) rfl OE.out sa i sc (sgC V (R.take i)) rfl LT.out (RD1.out _ hHeld) (sgC_one V _) (by omega) (by decide) hHeld.size i (by omega) (sgC V (R.take i)) rfl ?_
                  rintro a1 c1 w4 q1 q2 q3 q4
                  refine hK.out _ _ ?_ (fun hClosed hHeld => ?_)
                  · exact hHeld.trans q3
                  clear hK KK
                  (first | simp only [List.getElem_toArray, List.getElem_cons_succ, List.getElem_cons_zero, put_at, List.set] | (try simp only [put_at, List.set]))
                  have CE2 := Lib.hid (CE.out.grown q2 NE.out)
                  have NE2 : Hid ((a1 : Option Addr).map (·.block) ≠ some be) := Lib.hid (fun e => by rcases q4 be (own_block5 q1 e) with h | h; exact NE.out h; have h1 := CE.out.hi; omega)
                  clear CE NE
                  have CE := CE2
                  have NE := NE2
                  clear CE2 NE2
                  clear OE
                  have OE := Lib.hid q1
                  clear q1 q2 q3 q4
                  refine wpAnyL_one (i := 12) rfl (by kernel_rfl) (by kernel_rfl) hClosed (fun KK hK => ?_)
                  refine step_appE rowSg rfl _ _ rfl w2.heap.size a1 i c1 (sgC V (R.take i)) rfl OE.out (some ⟨be, 0, none⟩) 1 1 ([.int .i64 n, .slice none 0 0]) rfl rfl (CE.out.rd) (new_one n) (by omega) (by decide) hHeld.size (i + 1) (by omega) (sgC V (R.take i) ++ [.int .i64 n, .slice none 0 0]) rfl ?_
                  rintro a2 c2 w5 q1 q2 q3 q4
                  refine hK.out _ _ ?_ (fun hClosed hHeld => ?_)
                  · exact hHeld.trans q3
                  clear hK KK
                  (first | simp only [List.getElem_toArray, List.getElem_cons_succ, List.getElem_cons_zero, put_at, List.set] | (try simp only [put_at, List.set]))
                  clear OE CE NE
                  have OE := Lib.hid q1
                  clear q1 q2 q3 q4
                  refine wpAnyL_one (i := 19) rfl (by kernel_rfl) (by kernel_rfl) hClosed (fun KK hK => ?_)
                  refine step_appE rowSg rfl _ _ rfl w2.heap.size a2 (i + 1) c2 (sgC V (R.take i) ++ [.int .i64 n, .slice none 0 0]) rfl OE.out b2 (K - i) (sc - i) (sgC V (R.drop i)) rfl LD.out (RD2.out _ hHeld) (sgC_one V _) (by omega) (by decide) hHeld.size (K + 1) (by omega) (sgC V (R.take i) ++ [.int .i64 n, .slice none 0 0] ++ sgC V (R.drop i)) rfl ?_
                  rintro a3 c3 w6 q1 q2 q3 q4
                  refine hK.out _ _ ?_ (fun hClosed hHeld => ?_)
                  · exact hHeld.trans q3
                  clear hK KK
                  (first | simp only [List.getElem_toArray, List.getElem_cons_succ, List.getElem_cons_zero, put_at, List.set] | (try simp only [put_at, List.set]))
                  have FF := Lib.hid (FIN.out a3 c3 w6 q1 hHeld)
                  clear q1 q2 q3 q4 OE FIN
                  refine wpAnyL_take (i := 20) (v := ?_) rfl (by kernel_rfl) (by kernel_rfl) (by kernel_rfl) (by kernel_rfl) (fun _ _ _ h => h) (by kernel_rfl) hClosed (Or.inl ⟨by rfl, ?_⟩) hHeld (fun hClosed => ?_)
                  rotate_left
                  · intro wv hSw; go_simp; all_goals (with_reducible rfl)
                  (try simp only [List.getElem_toArray, List.getElem_cons_succ, List.getElem_cons_zero, put_at, List.set])
                  refine wpAnyL_take (i := 21) (v := ?_) rfl (by kernel_rfl) (by kernel_rfl) (by kernel_rfl) (by kernel_rfl) (fun _ _ _ h => h) (by kernel_rfl) hClosed (Or.inl ⟨by rfl, ?_⟩) hHeld (fun hClosed => ?_)
                  rotate_left
                  · intro wv hSw; go_simp; all_goals (with_reducible rfl)
                  (try simp only [List.getElem_toArray, List.getElem_cons_succ, List.getElem_cons_zero, put_at, List.set])
                  refine wpAnyL_last rfl (by kernel_rfl) (by kernel_rfl) (fun KK hK => ?_)
                  have e9 := (BX2.out.later hHeld).cell 1
                  have f9 := (BX2.out.later hHeld).free 1
                  have l9 := (BX2.out.later hHeld).lt
                  go_simp
                  refine hK.out _ _ ?_
                  (try simp only [put_at, List.set])
                  obtain ⟨gs, rfl, ls0⟩ := FF.out
                  have LS0 := Lib.hid ls0
                  clear ls0 FF
                  generalize w6.setCell ⟨d, 1, none⟩ (.slice (some ⟨gs, 0, none⟩) (K + 1) c3) = w7 at LS0 ⊢
                  clear LT LD HKC HNC HU RD1 RD2 BX2 e9 f9 l9
                  have ENDL := Lib.hid (ENDL0.out c3 gs)
                  go_wp2_with fail
                  go_loopw [8] (fun vj wr => ∃ (j : Nat) (V2 : VF), j ≤ m ∧ vj = .int .i64 (j : Int) ∧ Hid (Rm wr B d (some ⟨gs, 0, none⟩) c3 (R1.set i (n, ([] : Bys) ++ mkB next (b.take j))) V2 most (next + (j : Int)) f1 f2 ∧ TurnR d sa R V w (some ⟨gs, 0, none⟩) (R1.set i (n, ([] : Bys) ++ mkB next (b.take j))) V2 wr)) (fun vj _ => m - (vI vj).toNat)
                  case atStart => exact ⟨0, (setV V n none 0), by omega, rfl, LS0⟩
                  case round =>
                    obtain ⟨j, V2, hj, rfl, LS⟩ := hrel
                    clear LS0
                    obtain ⟨wl, rfl⟩ : ∃ W, W = wr := ⟨_, rfl⟩
                    have hcb : (m : Int) ≤ 100000 := by omega
                    by_cases hlt : j < m
                    · have hjd : decide ((j : Int) < (m : Int)) = true := decide_eq_true (by omega)
                      obtain ⟨x, hx⟩ : ∃ x, b[j]? = some x := ⟨_, List.getElem?_eq_getElem (by rw [HM.out]; exact hlt)⟩
                      have R1K2 : Hid ((R1.set i (n, ([] : Bys) ++ mkB next (b.take j)))[i]? = some (n, ([] : Bys) ++ mkB next (b.take j))) := Lib.hid (List.getElem?_set_self (List.getElem?_eq_some_iff.1 R1K.out).1)
                      have HLN : Hid ((([] : Bys) ++ mkB next (b.take j)).length = 0 + j) := Lib.hid (by rw [List.length_append, mkB_len, List.length_take, HL0.out, HM.out]; omega)
                      obtain ⟨L, hL⟩ : ∃ L, 0 + j = L := ⟨_, rfl⟩
                      have hL2 : L + 1 ≤ 2048 := by omega
                      rw [hL] at HLN
                      obtain ⟨A, hA⟩ : ∃ A, (V2 n).1 = A := ⟨_, rfl⟩
                      obtain ⟨C, hC⟩ : ∃ C, (V2 n).2 = C := ⟨_, rfl⟩
                      have RWS : Hid (Own wl B 57 2 A L C (byC (([] : Bys) ++ mkB next (b.take j)))) := Lib.hid (by have h9 := LS.out.1.rows n _ (List.mem_of_getElem? R1K2.out); rw [hA, hC, HLN.out] at h9; exact h9)
                      have OES : Hid (∀ W, Below wl.heap.size wl W → Own W B 57 2 A L C (byC (([] : Bys) ++ mkB next (b.take j)))) := Lib.hid (fun W hW => RWS.out.later hW)
                      obtain ⟨ga, og, habe, hbg⟩ := HR.out j (.int .u8 x) (by unfold u8L; rw [List.getElem?_map, hx]; rfl)
                      have hng : ¬ MineR d sa R V ga := HNM.out ga og habe (fun e => by rw [e] at hx; simp at hx)
                      have hgl : ga < w.heap.size := World.block_lt_of_cell? _ _ hbg
                      subst habe
                      have BC0 : Hid (wl.cell? ⟨ga, og + j, none⟩ = some (.int .u8 x) ∧ ga < wl.heap.size ∧ some ga ≠ A.map (·.block)) := Lib.hid ⟨(cell_blk (LS.out.2.1.block ga hgl hng) _).trans hbg, Nat.lt_of_lt_of_le hgl LS.out.2.1.size, fun e => by
                        have h8 := own_block5 RWS.out e.symm
                        rcases LS.out.2.2 ga (Or.inr (Or.inr ⟨n, _, List.mem_of_getElem? R1K2.out, by rw [hA]; exact h8⟩)) with h9 | h9
                        · exact hng h9
                        · omega⟩
                      have CS : Hid (∀ W, wl.grownBy W (A.map (·.block)) → W.cell? ⟨d, 1, none⟩ = some (.slice (some ⟨gs, 0, none⟩) K1 c3) ∧ W.cell? ⟨gs, i * 2 + 1, none⟩ = some (.slice A L C) ∧ W.cell? ⟨ga, og + j, none⟩ = some (.int .u8 x) ∧ W.cell? ⟨d, 2, none⟩ = some (.int .i64 (next + (j : Int))) ∧ d < W.heap.size ∧ W.frozen? ⟨gs, i * 2 + 1, none⟩ = false) := Lib.hid (fun W hW => by
                        have hd : some d ≠ A.map (·.block) := fun e => by
                          have h9 := own_block5 RWS.out e.symm
                          have h8 := RWS.out
                          rw [h9] at h8
                          exact own_not_box h8 LS.out.1.box (by decide) rfl
                        have hs : some gs ≠ A.map (·.block) := fun e => own_apart LS.out.1.own RWS.out rfl (own_block5 RWS.out e.symm) (by decide)
                        have q1 := LS.out.1.box.cell 1
                        have q2 := LS.out.1.box.cell 2
                        rw [List.length_set, HK9.out] at q1
                        have q3 := LS.out.1.own.cell ((two_get (sgL V2) (sgL_len V2) R1K2.out).2.trans rfl)
                        rw [hA, hC, HLN.out] at q3
                        have o9 := LS.out.1.own.blocks (w' := W) (fun g e => by injection e with e; injection e with e; subst e; exact hW.block _ LS.out.1.own.lt.2 hs)
                        exact ⟨(cell_blk (hW.block d LS.out.1.box.lt hd) _).trans q1, (cell_blk (hW.block gs LS.out.1.own.lt.2 hs) _).trans q3, (cell_blk (hW.block ga BC0.out.2.1 BC0.out.2.2) _).trans BC0.out.1, (cell_blk (hW.block d LS.out.1.box.lt hd) _).trans q2, Nat.lt_of_lt_of_le LS.out.1.box.lt hW.size, o9.free _⟩)
                      have GFS : Hid (∀ W, wl.grownBy W (A.map (·.block)) → W.cell? ⟨gs, i * 2 + 1, none⟩ = some (.slice A L C) ∧ W.frozen? ⟨gs, i * 2 + 1, none⟩ = false ∧ gs < W.heap.size) := Lib.hid (fun W hW => by
                        obtain ⟨_, z1, _, _, _, z2⟩ := CS.out W hW
                        exact ⟨z1, z2, World.block_lt_of_cell? _ _ z1⟩)
                      have szL : B ≤ wl.heap.size := Nat.le_trans LS.out.1.dB (Nat.le_of_lt LS.out.1.box.lt)
                      have HTK : Hid (([] : Bys) ++ mkB next (b.take (j + 1)) = (([] : Bys) ++ mkB next (b.take j)) ++ [(x, next + (j : Int))]) := Lib.hid (by
                        rw [List.take_add_one, hx, Option.toList_some, mkB_snoc, List.length_take, HM.out, Nat.min_eq_left hj, List.append_assoc])
                      have HZ : Hid (byC (([] : Bys) ++ mkB next (b.take j)) ++ byL (x, next + (j : Int)) = byC (([] : Bys) ++ mkB next (b.take (j + 1)))) := Lib.hid (by rw [byC_snoc, HTK.out])
                      have FIN : Hid (∀ W, Below wl.heap.size wl W → ∀ a1 c1 w4, Own w4 B 57 2 a1 (L + 1) c1 (byC (([] : Bys) ++ mkB next (b.take (j + 1)))) → W.grownBy w4 (A.map (·.block)) → (∀ g, a1 = some ⟨g, 0, none⟩ → A.map (·.block) = some g ∨ W.heap.size ≤ g) →
                          Rm (w4.setCell ⟨gs, i * 2 + 1, none⟩ (.slice a1 (L + 1) c1)) B d (some ⟨gs, 0, none⟩) c3 (R1.set i (n, ([] : Bys) ++ mkB next (b.take (j + 1)))) (setV V2 n a1 c1) most (next + (j : Int)) f1 f2 ∧ TurnR d sa R V w (some ⟨gs, 0, none⟩) (R1.set i (n, ([] : Bys) ++ mkB next (b.take (j + 1)))) (setV V2 n a1 c1) (w4.setCell ⟨gs, i * 2 + 1, none⟩ (.slice a1 (L + 1) c1))) := Lib.hid (fun W hW a1 c1 w4 h1 h2 h3 => by
                        have k0 := (LS.out.1.later hW).putby R1K2.out (by rw [HTK.out, List.length_append, HLN.out]; rfl) h1 (by rw [hA]; exact h2) (by rw [hA]; exact h3)
                        rw [List.set_set] at k0
                        exact ⟨k0.1, (LS.out.2.trans (TurnR.refl hW)).trans k0.2⟩)
                      have NXT : Hid (∀ V3 W, Rm W B d (some ⟨gs, 0, none⟩) c3 (R1.set i (n, ([] : Bys) ++ mkB next (b.take (j + 1)))) V3 most (next + (j : Int)) f1 f2 ∧ TurnR d sa R V w (some ⟨gs, 0, none⟩) (R1.set i (n, ([] : Bys) ++ mkB next (b.take (j + 1)))) V3 W →
                          Rm (W.setCell ⟨d, 2, none⟩ (.int .i64 (next + ((j + 1 : Nat) : Int)))) B d (some ⟨gs, 0, none⟩) c3 (R1.set i (n, ([] : Bys) ++ mkB next (b.take (j + 1)))) V3 most (next + ((j + 1 : Nat) : Int)) f1 f2 ∧ TurnR d sa R V w (some ⟨gs, 0, none⟩) (R1.set i (n, ([] : Bys) ++ mkB next (b.take (j + 1)))) V3 (W.setCell ⟨d, 2, none⟩ (.int .i64 (next + ((j + 1 : Nat) : Int))))) := Lib.hid (fun V3 W hh => by
                        have k0 := hh.1.cells (w' := W.setCell ⟨d, 2, none⟩ (.int .i64 (next + ((j + 1 : Nat) : Int)))) (next' := next + ((j + 1 : Nat) : Int)) (first' := f1) (fails' := f2) (hh.1.box.set 2 _) ((Only.refl (fun y => y = d) _).setCell (Or.inl rfl) _) hh.1.fiB hh.1.faB hh.1.fi0 hh.1.fa0
                        exact ⟨k0.1, hh.2.trans k0.2⟩)
                      have hj0 : (0 : Int) ≤ (j : Int) := by omega
                      have hj1 : (j : Int) < (m : Int) := by omega
                      clear hx hbg hA hC hL BC0 RWS hng hgl HTK HLN R1K2
                      go_wp2_with fail
                      go_upto_region 16 with fail
                      refine wp_region_last 26 (fun w' => wl.grownBy w' (A.map (·.block))) (by kernel_rfl) (gb_refl _ _) (fun hHeld hClosed => ?_)
                      have BW := Lib.hid ((Below.refl wl.heap.size wl).drew)
                      generalize wl.drew = wc at BW hHeld ⊢
                      refine wpAnyL_take (i := 0) (v := ?_) rfl (by kernel_rfl) (by kernel_rfl) (by kernel_rfl) (by kernel_rfl) (fun _ _ _ h => h) (by kernel_rfl) hClosed (Or.inl ⟨by rfl, ?_⟩) hHeld (fun hClosed => ?_)
                      rotate_left
                      · intro wv hSw; go_simp; all_goals (with_reducible rfl)
                      (try simp only [List.getElem_toArray, List.getElem_cons_zero, put_at, List.set])
                      refine wpAnyL_take (i := 1) (v := ?_) rfl (by kernel_rfl) (by kernel_rfl) (by kernel_rfl) (by kernel_rfl) (fun _ _ _ h => h) (by kernel_rfl) hClosed (Or.inl ⟨by rfl, ?_⟩) hHeld (fun hClosed => ?_)
                      rotate_left
                      · intro wv hSw; go_simp; all_goals (with_reducible rfl)
                      (try simp only [List.getElem_toArray, List.getElem_cons_succ, List.getElem_cons_zero, put_at, List.set])
                      refine wpAnyL_take (i := 2) (v := ?_) rfl (by kernel_rfl) (by kernel_rfl) (by kernel_rfl) (by kernel_rfl) (fun _ _ _ h => h) (by kernel_rfl) hClosed (Or.inl ⟨by rfl, ?_⟩) hHeld (fun hClosed => ?_)
                      rotate_left
                      · intro wv hSw; go_simp; all_goals (with_reducible rfl)
                      (try simp only [List.getElem_toArray, List.getElem_cons_succ, List.getElem_cons_zero, put_at, List.set])
                      refine wpAnyL_take (i := 3) (v := ?_) rfl (by kernel_rfl) (by kernel_rfl) (by kernel_rfl) (by kernel_rfl) (fun _ _ _ h => h) (by kernel_rfl) hClosed (Or.inl ⟨by rfl, ?_⟩) hHeld (fun hClosed => ?_)
                      rotate_left
                      · intro wv hSw; obtain ⟨o1, o2, o3, o4, o5, o6⟩ := CS.out _ hSw; go_simp; all_goals (with_reducible rfl)
                      (try simp only [List.getElem_toArray, List.getElem_cons_succ, List.getElem_cons_zero, put_at, List.set])
                      refine wpAnyL_take (i := 4) (v := ?_) rfl (by kernel_rfl) (by kernel_rfl) (by kernel_rfl) (by kernel_rfl) (fun _ _ _ h => h) (by kernel_rfl) hClosed (Or.inl ⟨by rfl, ?_⟩) hHeld (fun hClosed => ?_)
                      rotate_left
                      · intro wv hSw; go_simp; all_goals (with_reducible rfl)
                      (try simp only [List.getElem_toArray, List.getElem_cons_succ, List.getElem_cons_zero, put_at, List.set])
                      refine wpAnyL_take (i := 5) (v := ?_) rfl (by kernel_rfl) (by kernel_rfl) (by kernel_rfl) (by kernel_rfl) (fun _ _ _ h => h) (by kernel_rfl) hClosed (Or.inl ⟨by rfl, ?_⟩) hHeld (fun hClosed => ?_)
                      rotate_left
                      · intro wv hSw; go_simp; all_goals (with_reducible rfl)
                      (try simp only [List.getElem_toArray, List.getElem_cons_succ, List.getElem_cons_zero, put_at, List.set])
                      refine wpAnyL_take (i := 6) (v := ?_) rfl (by kernel_rfl) (by kernel_rfl) (by kernel_rfl) (by kernel_rfl) (fun _ _ _ h => h) (by kernel_rfl) hClosed (Or.inl ⟨by rfl, ?_⟩) hHeld (fun hClosed => ?_)
                      rotate_left
                      · intro wv hSw; go_simp; all_goals (with_reducible rfl)
                      (try simp only [List.getElem_toArray, List.getElem_cons_succ, List.getElem_cons_zero, put_at, List.set])
                      refine wpAnyL_take (i := 7) (v := ?_) rfl (by kernel_rfl) (by kernel_rfl) (by kernel_rfl) (by kernel_rfl) (fun _ _ _ h => h) (by kernel_rfl) hClosed (Or.inl ⟨by rfl, ?_⟩) hHeld (fun hClosed => ?_)
                      rotate_left
                      · intro wv hSw; go_simp; all_goals (with_reducible rfl)
                      (try simp only [List.getElem_toArray, List.getElem_cons_succ, List.getElem_cons_zero, put_at, List.set])
                      refine wpAnyL_take (i := 8) (v := ?_) rfl (by kernel_rfl) (by kernel_rfl) (by kernel_rfl) (by kernel_rfl) (fun _ _ _ h => h) (by kernel_rfl) hClosed (Or.inl ⟨by rfl, ?_⟩) hHeld (fun hClosed => ?_)
                      rotate_left
                      · intro wv hSw; obtain ⟨o1, o2, o3, o4, o5, o6⟩ := CS.out _ hSw; go_simp; all_goals (with_reducible rfl)
                      (try simp only [List.getElem_toArray, List.getElem_cons_succ, List.getElem_cons_zero, put_at, List.set])
                      refine wpAnyL_take (i := 9) (v := ?_) rfl (by kernel_rfl) (by kernel_rfl) (by kernel_rfl) (by kernel_rfl) (fun _ _ _ h => h) (by kernel_rfl) hClosed (Or.inl ⟨by rfl, ?_⟩) hHeld (fun hClosed => ?_)
                      rotate_left
                      · intro wv hSw; go_simp; all_goals (with_reducible rfl)
                      (try simp only [List.getElem_toArray, List.getElem_cons_succ, List.getElem_cons_zero, put_at, List.set])
                      refine wpAnyL_take (i := 10) (v := ?_) rfl (by kernel_rfl) (by kernel_rfl) (by kernel_rfl) (by kernel_rfl) (fun _ _ _ h => h) (by kernel_rfl) hClosed (Or.inl ⟨by rfl, ?_⟩) hHeld (fun hClosed => ?_)
                      rotate_left
                      · intro wv hSw; go_simp; all_goals (with_reducible rfl)
                      (try simp only [List.getElem_toArray, List.getElem_cons_succ, List.getElem_cons_zero, put_at, List.set])
                      refine wpAnyL_take (i := 11) (v := ?_) rfl (by kernel_rfl) (by kernel_rfl) (by kernel_rfl) (by kernel_rfl) (fun _ _ _ h => h) (by kernel_rfl) hClosed (Or.inl ⟨by rfl, ?_⟩) hHeld (fun hClosed => ?_)
                      rotate_left
                      · intro wv hSw; go_simp; all_goals (with_reducible rfl)
                      (try simp only [List.getElem_toArray, List.getElem_cons_succ, List.getElem_cons_zero, put_at, List.set])
                      refine wpAnyL_take (i := 12) (v := ?_) rfl (by kernel_rfl) (by kernel_rfl) (by kernel_rfl) (by kernel_rfl) (fun _ _ _ h => h) (by kernel_rfl) hClosed (Or.inl ⟨by rfl, ?_⟩) hHeld (fun hClosed => ?_)
                      rotate_left
                      · intro wv hSw; obtain ⟨o1, o2, o3, o4, o5, o6⟩ := CS.out _ hSw; go_simp; all_goals (with_reducible rfl)
                      (try simp only [List.getElem_toArray, List.getElem_cons_succ, List.getElem_cons_zero, put_at, List.set])
                      refine wpAnyL_take (i := 13) (v := ?_) rfl (by kernel_rfl) (by kernel_rfl) (by kernel_rfl) (by kernel_rfl) (fun _ _ _ h => h) (by kernel_rfl) hClosed (Or.inl ⟨by rfl, ?_⟩) hHeld (fun hClosed => ?_)
                      rotate_left
                      · intro wv hSw; go_simp; all_goals (with_reducible rfl)
                      (try simp only [List.getElem_toArray, List.getElem_cons_succ, List.getElem_cons_zero, put_at, List.set])
                      refine wpAnyL_take (i := 14) (v := ?_) rfl (by kernel_rfl) (by kernel_rfl) (by kernel_rfl) (by kernel_rfl) (fun _ _ _ h => h) (by kernel_rfl) hClosed (Or.inl ⟨by rfl, ?_⟩) hHeld (fun hClosed => ?_)
                      rotate_left
                      · intro wv hSw; go_simp; all_goals (with_reducible rfl)
                      (try simp only [List.getElem_toArray, List.getElem_cons_succ, List.getElem_cons_zero, put_at, List.set])
                      refine wpAnyL_take (i := 15) (v := ?_) rfl (by kernel_rfl) (by kernel_rfl) (by kernel_rfl) (by kernel_rfl) (fun _ _ _ h => h) (by kernel_rfl) hClosed (Or.inl ⟨by rfl, ?_⟩) hHeld (fun hClosed => ?_)
                      rotate_left
                      · intro wv hSw; go_simp; all_goals (with_reducible rfl)
                      (try simp only [List.getElem_toArray, List.getElem_cons_succ, List.getElem_cons_zero, put_at, List.set])
                      refine wpAnyL_take (i := 16) (v := ?_) rfl (by kernel_rfl) (by kernel_rfl) (by kernel_rfl) (by kernel_rfl) (fun _ _ _ h => h) (by kernel_rfl) hClosed (Or.inl ⟨by rfl, ?_⟩) hHeld (fun hClosed => ?_)
                      rotate_left
                      · intro wv hSw; obtain ⟨o1, o2, o3, o4, o5, o6⟩ := CS.out _ hSw; go_simp; all_goals (with_reducible rfl)
                      (try simp only [List.getElem_toArray, List.getElem_cons_succ, List.getElem_cons_zero, put_at, List.set])
                      refine wpAnyL_take (i := 17) (v := ?_) rfl (by kernel_rfl) (by kernel_rfl) (by kernel_rfl) (by kernel_rfl) (fun _ _ _ h => h) (by kernel_rfl) hClosed (Or.inl ⟨by rfl, ?_⟩) hHeld (fun hClosed => ?_)
                      rotate_left
                      · intro wv hSw; go_simp; all_goals (with_reducible rfl)
                      (try simp only [List.getElem_toArray, List.getElem_cons_succ, List.getElem_cons_zero, put_at, List.set])
                      refine wpAnyL_take (i := 18) (v := ?_) rfl (by kernel_rfl) (by kernel_rfl) (by kernel_rfl) (by kernel_rfl) (fun _ _ _ h => h) (by kernel_rfl) hClosed (Or.inl ⟨by rfl, ?_⟩) hHeld (fun hClosed => ?_)
                      rotate_left
                      · intro wv hSw; go_simp; all_goals (with_reducible rfl)
                      (try simp only [List.getElem_toArray, List.getElem_cons_succ, List.getElem_cons_zero, put_at, List.set])
                      refine wpAnyL_take (i := 19) (v := ?_) rfl (by kernel_rfl) (by kernel_rfl) (by kernel_rfl) (by kernel_rfl) (fun _ _ _ h => h) (by kernel_rfl) hClosed (Or.inl ⟨by rfl, ?_⟩) hHeld (fun hClosed => ?_)
                      rotate_left
                      · intro wv hSw; go_simp; all_goals (with_reducible rfl)
                      (try simp only [List.getElem_toArray, List.getElem_cons_succ, List.getElem_cons_zero, put_at, List.set])
                      refine wpAnyL_take (i := 20) (v := ?_) rfl (by kernel_rfl) (by kernel_rfl) (by kernel_rfl) (by kernel_rfl) (fun _ _ _ h => h) (by kernel_rfl) hClosed (Or.inl ⟨by rfl, ?_⟩) hHeld (fun hClosed => ?_)
                      rotate_left
                      · intro wv hSw; obtain ⟨o1, o2, o3, o4, o5, o6⟩ := CS.out _ hSw; go_simp; all_goals (with_reducible rfl)
                      (try simp only [List.getElem_toArray, List.getElem_cons_succ, List.getElem_cons_zero, put_at, List.set])
                      refine wpAnyL_take (i := 21) (v := ?_) rfl (by kernel_rfl) (by kernel_rfl) (by kernel_rfl) (by kernel_rfl) (fun _ _ _ h => h) (by kernel_rfl) hClosed (Or.inl ⟨by rfl, ?_⟩) hHeld (fun hClosed => ?_)
                      rotate_left
                      · intro wv hSw; go_simp; all_goals (with_reducible rfl)
                      (try simp only [List.getElem_toArray, List.getElem_cons_succ, List.getElem_cons_zero, put_at, List.set])
                      refine wpAnyL_one (i := 22) rfl (by kernel_rfl) (by kernel_rfl) hClosed (fun KK hK => ?_)
                      go_simp
                      obtain ⟨wc1, be, hw1, hb1, L1, ce, X1⟩ := newEl #[.int .u8 x, .int .i64 (next + (j : Int))] 57 (Below.refl wc.heap.size wc)
                      rw [hw1, hb1]
                      refine hK.out _ _ ?_ (fun hClosed hHeld => ?_)
                      · exact gb_later hHeld X1
                      clear hK KK
                      (first | simp only [List.getElem_toArray, List.getElem_cons_succ, List.getElem_cons_zero, put_at, List.set] | (try simp only [put_at, List.set]))
                      have CE := Lib.hid ce
                      have BW2 := Lib.hid (BW.out.trans (X1.mono BW.out.size))
                      have RW := Lib.hid (LS.out.1.later BW2.out)
                      have OE := Lib.hid (OES.out _ BW2.out)
                      have szB : B ≤ wc1.heap.size := Nat.le_trans szL BW2.out.size
                      clear ce L1 X1 hw1 hb1 BW OES
                      refine wpAnyL_one (i := 23) rfl (by kernel_rfl) (by kernel_rfl) hClosed (fun KK hK => ?_)
                      refine step_appE rowBy rfl _ _ rfl B A L C (byC (([] : Bys) ++ mkB next (b.take j))) rfl OE.out (some ⟨be, 0, none⟩) 1 1 (byL (x, next + (j : Int))) rfl rfl CE.out.rd (byL_one _) (by omega) (by decide) szB (L + 1) rfl (byC (([] : Bys) ++ mkB next (b.take (j + 1)))) HZ.out ?_
                      rintro a1 c1 w4 q1 q2 q3 q4
                      refine hK.out _ _ ?_ (fun hClosed hHeld => ?_)
                      · exact gb_trans hHeld q2
                      clear hK KK
                      (first | simp only [List.getElem_toArray, List.getElem_cons_succ, List.getElem_cons_zero, put_at, List.set] | (try simp only [put_at, List.set]))
                      have GF := Lib.hid (GFS.out w4 hHeld)
                      have FF := Lib.hid (FIN.out wc1 BW2.out a1 c1 w4 q1 q2 q4)
                      clear q1 q2 q3 q4 CE OE RW FIN
                      refine wpAnyL_take (i := 24) (v := ?_) rfl (by kernel_rfl) (by kernel_rfl) (by kernel_rfl) (by kernel_rfl) (fun _ _ _ h => h) (by kernel_rfl) hClosed (Or.inl ⟨by rfl, ?_⟩) hHeld (fun hClosed => ?_)
                      rotate_left
                      · intro wv hSw; go_simp; all_goals (with_reducible rfl)
                      (try simp only [List.getElem_toArray, List.getElem_cons_succ, List.getElem_cons_zero, put_at, List.set])
                      refine wpAnyL_take (i := 25) (v := ?_) rfl (by kernel_rfl) (by kernel_rfl) (by kernel_rfl) (by kernel_rfl) (fun _ _ _ h => h) (by kernel_rfl) hClosed (Or.inl ⟨by rfl, ?_⟩) hHeld (fun hClosed => ?_)
                      rotate_left
                      · intro wv hSw; go_simp; all_goals (with_reducible rfl)
                      (try simp only [List.getElem_toArray, List.getElem_cons_succ, List.getElem_cons_zero, put_at, List.set])
                      refine wpAnyL_last rfl (by kernel_rfl) (by kernel_rfl) (fun KK hK => ?_)
                      obtain ⟨e9, f9, l9⟩ := GF.out
                      go_simp
                      refine hK.out _ _ ?_
                      (try simp only [put_at, List.set])
                      have nb := FF.out.1.box
                      have n2 := nb.cell 2
                      have n2f := nb.free 2
                      have nl := nb.lt
                      have NX2 := Lib.hid (NXT.out _ _ FF.out)
                      clear FF GF nb
                      generalize w4.setCell ⟨gs, i * 2 + 1, none⟩ (.slice a1 (L + 1) c1) = wg at n2 n2f nl NX2 ⊢
                      have hww : IntKind.i64.wrap (next + (j : Int) + 1) = next + ((j + 1 : Nat) : Int) := by rw [IntWalk.i64_in _ (by omega)]; omega
                      go_wp2
                      go_roundw
                      case rel => exact ⟨j + 1, _, by omega, by go_num, NX2⟩
                      case measure => exact cra_ms m j hlt
                    · have hjd : decide ((j : Int) < (m : Int)) = false := decide_eq_false (by omega)
                      obtain rfl : j = m := by omega
                      have FF := Lib.hid (ENDL.out V2 wl LS.out)
                      clear LS
                      go_wp2
                      go_ret
                      exact FF.out

  · rw [hv] at AT
    have hkl := (List.getElem?_eq_some_iff.1 hk).1
    obtain ⟨gs, rfl, _⟩ := h.own.some_ (by omega)
    have R1K := Lib.hid hk
    obtain ⟨L0, hL0⟩ : ∃ L, bs.length = L := ⟨_, rfl⟩
    have HL0 := Lib.hid hL0
    have hb2 := hseg n bs (List.mem_of_getElem? hk)
    rw [hL0] at hb2
    have x1 := h.own.cell ((two_get (sgL V) (sgL_len V) hk).2.trans rfl)
    rw [hL0] at x1
    obtain ⟨A, hA⟩ : ∃ A, (V n).1 = A := ⟨_, rfl⟩
    obtain ⟨C, hC⟩ : ∃ C, (V n).2 = C := ⟨_, rfl⟩
    rw [hA, hC] at x1
    obtain ⟨fb, hc8⟩ : ∃ b, decide (2048 < (L0 : Int) + (m : Int)) = b := ⟨_, rfl⟩
    have FBR : Hid (FbR R most n b.length fb) := Lib.hid (Or.inr ⟨k, bs, hk, by rw [hm, hL0, hc8]⟩)
    have HC8 := Lib.hid hc8
    rw [hK] at hkl
    have hkn : ¬ (k : Int) < 0 := by omega
    have hd0 : decide ((k : Int) < 0) = false := decide_eq_false hkn
    have hd1 : decide ((0 : Int) ≤ (k : Int)) = true := decide_eq_true (by omega)
    have hk0 : (0 : Int) ≤ (k : Int) := by omega
    have hk1 : (k : Int) < (K : Int) := by omega
    have hwr : IntKind.i64.wrap ((L0 : Int) + (m : Int)) = (L0 : Int) + (m : Int) := IntWalk.i64_in _ (by omega)
    clear h hm hr hnm hK hwb hv hk hA hC hL0
    go_enter Try.func7, Try.ntmps7
    go_wp2_with fail
    refine AT.out.mono ?_
    rintro e w1 ⟨rfl, hw1⟩
    subst w1
    clear AT
    go_upto_region 4 with fail
    go_cut [55] (fun v wx => v = .bool fb ∧ Hid (Below w.heap.size w wx))
    case first =>
      go_quiet (fail)
      go_wp2
      go_meet
      exact ⟨rfl, Lib.hid (dk_drewN (Below.refl _ _) nq)⟩
    case rest =>
      obtain ⟨rfl, BC⟩ := hcut
      obtain ⟨w1, hw1⟩ : ∃ W, wc = W := ⟨_, rfl⟩
      rw [hw1] at BC ⊢
      clear hw1 c0 c1 ld hc8 x1 hwr
      cases fb with
      | true =>
        have FIN : Hid (ApRP B d (some ⟨gs, 0, none⟩) R V most next first fails n b w (.returned (.int .i64 5)) w1) := Lib.hid ⟨true, FBR.out, Or.inl ⟨rfl, rfl, BC.out⟩⟩
        go_wp2
        go_ret
        exact FIN.out
      | false =>
        have FL := Lib.hid (fails_ref (H0.out.later BC.out))
        rw [WFB.out] at FL
        have hLm : L0 + m ≤ 2048 := by have h9 := of_decide_eq_false HC8.out; omega
        go_wp2_with fail
        refine FL.out.mono ?_
        rintro e w2 ⟨rfl, r2, t2⟩
        have R2 := Lib.hid r2
        have T2 := Lib.hid ((TurnR.refl (d := d) (sa := some ⟨gs, 0, none⟩) (R := R) (V := V) BC.out).trans t2)
        clear r2 t2 FL BC HC8
        obtain ⟨f1, hf1⟩ : ∃ x, wfH first = x := ⟨_, rfl⟩
        obtain ⟨f2, hf2⟩ : ∃ x, wfF first fails = x := ⟨_, rfl⟩
        have HF1 := Lib.hid hf1
        have HF2 := Lib.hid hf2
        rw [hf1, hf2] at R2
        clear hf1 hf2
        cases wb with
        | true =>
          have FIN : Hid (ApRP B d (some ⟨gs, 0, none⟩) R V most next first fails n b w (.returned (.int .i64 7)) w2) := Lib.hid ⟨false, FBR.out, Or.inr (Or.inl ⟨rfl, WFB.out, rfl, sc, by rw [HF1.out, HF2.out]; exact R2.out, T2.out⟩)⟩
          go_wp2
          go_ret
          exact FIN.out
        | false =>
          obtain ⟨R1, hR1⟩ : ∃ R1, R = R1 := ⟨_, rfl⟩
          obtain ⟨V1, hV1⟩ : ∃ V1, V = V1 := ⟨_, rfl⟩
          obtain ⟨sc1, hsc1⟩ : ∃ V1, sc = V1 := ⟨_, rfl⟩
          obtain ⟨sa, hsa⟩ : ∃ V1, (some ⟨gs, 0, none⟩ : Option Addr) = V1 := ⟨_, rfl⟩
          obtain ⟨K1, hK1⟩ : ∃ V1, K = V1 := ⟨_, rfl⟩
          have HK1 := HK
          rw [hK1, hR1] at HK1
          have ENDL : Hid (∀ V2 W, Rm W B d (some ⟨gs, 0, none⟩) sc1 (R1.set k (n, bs ++ mkB next (b.take m))) V2 most (next + (m : Int)) f1 f2 ∧ TurnR d sa R V w (some ⟨gs, 0, none⟩) (R1.set k (n, bs ++ mkB next (b.take m))) V2 W → ApRP B d (some ⟨gs, 0, none⟩) R V most next first fails n b w (.returned (.int .i64 0)) W) := Lib.hid (fun V2 W hh => by
            rw [← hsa] at hh
            rw [List.take_of_length_le (Nat.le_of_eq HM.out)] at hh
            exact ⟨false, FBR.out, Or.inr (Or.inr ⟨rfl, WFB.out, rfl, _, sc1, _, V2, by rw [HM.out, HF1.out, HF2.out]; exact hh.1, hh.2, R1, k, bs, by rw [← hR1]; exact R1K.out, rfl, Or.inl hR1.symm⟩)⟩)
          have LS0 : Hid (Rm w2 B d (some ⟨gs, 0, none⟩) sc1 (R1.set k (n, bs ++ mkB next (b.take 0))) V1 most (next + ((0 : Nat) : Int)) f1 f2 ∧ TurnR d sa R V w (some ⟨gs, 0, none⟩) (R1.set k (n, bs ++ mkB next (b.take 0))) V1 w2) := Lib.hid (by
            have e2 : R1.set k (n, bs ++ mkB next (b.take 0)) = R1 := by
              rw [List.take_zero, mkB, List.append_nil]
              refine List.ext_getElem? fun x => ?_
              rw [List.getElem?_set]
              split
              · rename_i hx
                subst hx
                rw [← hR1, R1K.out, if_pos (List.getElem?_eq_some_iff.1 R1K.out).1]
              · rfl
            rw [e2, show next + ((0 : Nat) : Int) = next by omega, ← hV1, ← hR1, ← hsa, ← hsc1]
            exact ⟨R2.out, T2.out⟩)
          rw [hR1] at R1K
          rw [hsa] at HNM
          have hq1 : (k : Int) < (K1 : Int) := by omega
          clear hR1 hV1 hsc1 hK1 hsa R2 T2 WFB FBR H0 HF1 HF2
          go_wp2_with fail
          go_loopw [8] (fun vj wr => ∃ (j : Nat) (V2 : VF), j ≤ m ∧ vj = .int .i64 (j : Int) ∧ Hid (Rm wr B d (some ⟨gs, 0, none⟩) sc1 (R1.set k (n, bs ++ mkB next (b.take j))) V2 most (next + (j : Int)) f1 f2 ∧ TurnR d sa R V w (some ⟨gs, 0, none⟩) (R1.set k (n, bs ++ mkB next (b.take j))) V2 wr)) (fun vj _ => m - (vI vj).toNat)
          case atStart => exact ⟨0, V1, by omega, rfl, LS0⟩
          case round =>
            obtain ⟨j, V2, hj, rfl, LS⟩ := hrel
            clear LS0
            obtain ⟨wl, rfl⟩ : ∃ W, W = wr := ⟨_, rfl⟩
            have hcb : (m : Int) ≤ 100000 := by omega
            by_cases hlt : j < m
            · have hjd : decide ((j : Int) < (m : Int)) = true := decide_eq_true (by omega)
              obtain ⟨x, hx⟩ : ∃ x, b[j]? = some x := ⟨_, List.getElem?_eq_getElem (by rw [HM.out]; exact hlt)⟩
              have R1K2 : Hid ((R1.set k (n, bs ++ mkB next (b.take j)))[k]? = some (n, bs ++ mkB next (b.take j))) := Lib.hid (List.getElem?_set_self (List.getElem?_eq_some_iff.1 R1K.out).1)
              have HLN : Hid ((bs ++ mkB next (b.take j)).length = L0 + j) := Lib.hid (by rw [List.length_append, mkB_len, List.length_take, HL0.out, HM.out]; omega)
              obtain ⟨L, hL⟩ : ∃ L, L0 + j = L := ⟨_, rfl⟩
              have hL2 : L + 1 ≤ 2048 := by omega
              rw [hL] at HLN
              obtain ⟨A, hA⟩ : ∃ A, (V2 n).1 = A := ⟨_, rfl⟩
              obtain ⟨C, hC⟩ : ∃ C, (V2 n).2 = C := ⟨_, rfl⟩
              have RWS : Hid (Own wl B 57 2 A L C (byC (bs ++ mkB next (b.take j)))) := Lib.hid (by have h9 := LS.out.1.rows n _ (List.mem_of_getElem? R1K2.out); rw [hA, hC, HLN.out] at h9; exact h9)
              have OES : Hid (∀ W, Below wl.heap.size wl W → Own W B 57 2 A L C (byC (bs ++ mkB next (b.take j)))) := Lib.hid (fun W hW => RWS.out.later hW)
              obtain ⟨ga, og, habe, hbg⟩ := HR.out j (.int .u8 x) (by unfold u8L; rw [List.getElem?_map, hx]; rfl)
              have hng : ¬ MineR d sa R V ga := HNM.out ga og habe (fun e => by rw [e] at hx; simp at hx)
              have hgl : ga < w.heap.size := World.block_lt_of_cell? _ _ hbg
              subst habe
              have BC0 : Hid (wl.cell? ⟨ga, og + j, none⟩ = some (.int .u8 x) ∧ ga < wl.heap.size ∧ some ga ≠ A.map (·.block)) := Lib.hid ⟨(cell_blk (LS.out.2.1.block ga hgl hng) _).trans hbg, Nat.lt_of_lt_of_le hgl LS.out.2.1.size, fun e => by
                have h8 := own_block5 RWS.out e.symm
                rcases LS.out.2.2 ga (Or.inr (Or.inr ⟨n, _, List.mem_of_getElem? R1K2.out, by rw [hA]; exact h8⟩)) with h9 | h9
                · exact hng h9
                · omega⟩
              have CS : Hid (∀ W, wl.grownBy W (A.map (·.block)) → W.cell? ⟨d, 1, none⟩ = some (.slice (some ⟨gs, 0, none⟩) K1 sc1) ∧ W.cell? ⟨gs, k * 2 + 1, none⟩ = some (.slice A L C) ∧ W.cell? ⟨ga, og + j, none⟩ = some (.int .u8 x) ∧ W.cell? ⟨d, 2, none⟩ = some (.int .i64 (next + (j : Int))) ∧ d < W.heap.size ∧ W.frozen? ⟨gs, k * 2 + 1, none⟩ = false) := Lib.hid (fun W hW => by
                have hd : some d ≠ A.map (·.block) := fun e => by
                  have h9 := own_block5 RWS.out e.symm
                  have h8 := RWS.out
                  rw [h9] at h8
                  exact own_not_box h8 LS.out.1.box (by decide) rfl
                have hs : some gs ≠ A.map (·.block) := fun e => own_apart LS.out.1.own RWS.out rfl (own_block5 RWS.out e.symm) (by decide)
                have q1 := LS.out.1.box.cell 1
                have q2 := LS.out.1.box.cell 2
                rw [List.length_set, HK1.out] at q1
                have q3 := LS.out.1.own.cell ((two_get (sgL V2) (sgL_len V2) R1K2.out).2.trans rfl)
                rw [hA, hC, HLN.out] at q3
                have o9 := LS.out.1.own.blocks (w' := W) (fun g e => by injection e with e; injection e with e; subst e; exact hW.block _ LS.out.1.own.lt.2 hs)
                exact ⟨(cell_blk (hW.block d LS.out.1.box.lt hd) _).trans q1, (cell_blk (hW.block gs LS.out.1.own.lt.2 hs) _).trans q3, (cell_blk (hW.block ga BC0.out.2.1 BC0.out.2.2) _).trans BC0.out.1, (cell_blk (hW.block d LS.out.1.box.lt hd) _).trans q2, Nat.lt_of_lt_of_le LS.out.1.box.lt hW.size, o9.free _⟩)
              have GFS : Hid (∀ W, wl.grownBy W (A.map (·.block)) → W.cell? ⟨gs, k * 2 + 1, none⟩ = some (.slice A L C) ∧ W.frozen? ⟨gs, k * 2 + 1, none⟩ = false ∧ gs < W.heap.size) := Lib.hid (fun W hW => by
                obtain ⟨_, z1, _, _, _, z2⟩ := CS.out W hW
                exact ⟨z1, z2, World.block_lt_of_cell? _ _ z1⟩)
              have szL : B ≤ wl.heap.size := Nat.le_trans LS.out.1.dB (Nat.le_of_lt LS.out.1.box.lt)
              have HTK : Hid (bs ++ mkB next (b.take (j + 1)) = (bs ++ mkB next (b.take j)) ++ [(x, next + (j : Int))]) := Lib.hid (by
                rw [List.take_add_one, hx, Option.toList_some, mkB_snoc, List.length_take, HM.out, Nat.min_eq_left hj, List.append_assoc])
              have HZ : Hid (byC (bs ++ mkB next (b.take j)) ++ byL (x, next + (j : Int)) = byC (bs ++ mkB next (b.take (j + 1)))) := Lib.hid (by rw [byC_snoc, HTK.out])
              have FIN : Hid (∀ W, Below wl.heap.size wl W → ∀ a1 c1 w4, Own w4 B 57 2 a1 (L + 1) c1 (byC (bs ++ mkB next (b.take (j + 1)))) → W.grownBy w4 (A.map (·.block)) → (∀ g, a1 = some ⟨g, 0, none⟩ → A.map (·.block) = some g ∨ W.heap.size ≤ g) →
                  Rm (w4.setCell ⟨gs, k * 2 + 1, none⟩ (.slice a1 (L + 1) c1)) B d (some ⟨gs, 0, none⟩) sc1 (R1.set k (n, bs ++ mkB next (b.take (j + 1)))) (setV V2 n a1 c1) most (next + (j : Int)) f1 f2 ∧ TurnR d sa R V w (some ⟨gs, 0, none⟩) (R1.set k (n, bs ++ mkB next (b.take (j + 1)))) (setV V2 n a1 c1) (w4.setCell ⟨gs, k * 2 + 1, none⟩ (.slice a1 (L + 1) c1))) := Lib.hid (fun W hW a1 c1 w4 h1 h2 h3 => by
                have k0 := (LS.out.1.later hW).putby R1K2.out (by rw [HTK.out, List.length_append, HLN.out]; rfl) h1 (by rw [hA]; exact h2) (by rw [hA]; exact h3)
                rw [List.set_set] at k0
                exact ⟨k0.1, (LS.out.2.trans (TurnR.refl hW)).trans k0.2⟩)
              have NXT : Hid (∀ V3 W, Rm W B d (some ⟨gs, 0, none⟩) sc1 (R1.set k (n, bs ++ mkB next (b.take (j + 1)))) V3 most (next + (j : Int)) f1 f2 ∧ TurnR d sa R V w (some ⟨gs, 0, none⟩) (R1.set k (n, bs ++ mkB next (b.take (j + 1)))) V3 W →
                  Rm (W.setCell ⟨d, 2, none⟩ (.int .i64 (next + ((j + 1 : Nat) : Int)))) B d (some ⟨gs, 0, none⟩) sc1 (R1.set k (n, bs ++ mkB next (b.take (j + 1)))) V3 most (next + ((j + 1 : Nat) : Int)) f1 f2 ∧ TurnR d sa R V w (some ⟨gs, 0, none⟩) (R1.set k (n, bs ++ mkB next (b.take (j + 1)))) V3 (W.setCell ⟨d, 2, none⟩ (.int .i64 (next + ((j + 1 : Nat) : Int))))) := Lib.hid (fun V3 W hh => by
                have k0 := hh.1.cells (w' := W.setCell ⟨d, 2, none⟩ (.int .i64 (next + ((j + 1 : Nat) : Int)))) (next' := next + ((j + 1 : Nat) : Int)) (first' := f1) (fails' := f2) (hh.1.box.set 2 _) ((Only.refl (fun y => y = d) _).setCell (Or.inl rfl) _) hh.1.fiB hh.1.faB hh.1.fi0 hh.1.fa0
                exact ⟨k0.1, hh.2.trans k0.2⟩)
              have hj0 : (0 : Int) ≤ (j : Int) := by omega
              have hj1 : (j : Int) < (m : Int) := by omega
              clear hx hbg hA hC hL BC0 RWS hng hgl HTK HLN R1K2
              go_wp2_with fail
              go_upto_region 16 with fail
              refine wp_region_last 26 (fun w' => wl.grownBy w' (A.map (·.block))) (by kernel_rfl) (gb_refl _ _) (fun hHeld hClosed => ?_)
              have BW := Lib.hid ((Below.refl wl.heap.size wl).drew)
              generalize wl.drew = wc at BW hHeld ⊢
              refine wpAnyL_take (i := 0) (v := ?_) rfl (by kernel_rfl) (by kernel_rfl) (by kernel_rfl) (by kernel_rfl) (fun _ _ _ h => h) (by kernel_rfl) hClosed (Or.inl ⟨by rfl, ?_⟩) hHeld (fun hClosed => ?_)
              rotate_left
              · intro wv hSw; go_simp; all_goals (with_reducible rfl)
              (try simp only [List.getElem_toArray, List.getElem_cons_zero, put_at, List.set])
              refine wpAnyL_take (i := 1) (v := ?_) rfl (by kernel_rfl) (by kernel_rfl) (by kernel_rfl) (by kernel_rfl) (fun _ _ _ h => h) (by kernel_rfl) hClosed (Or.inl ⟨by rfl, ?_⟩) hHeld (fun hClosed => ?_)
              rotate_left
              · intro wv hSw; go_simp; all_goals (with_reducible rfl)
              (try simp only [List.getElem_toArray, List.getElem_cons_succ, List.getElem_cons_zero, put_at, List.set])
              refine wpAnyL_take (i := 2) (v := ?_) rfl (by kernel_rfl) (by kernel_rfl) (by kernel_rfl) (by kernel_rfl) (fun _ _ _ h => h) (by kernel_rfl) hClosed (Or.inl ⟨by rfl, ?_⟩) hHeld (fun hClosed => ?_)
              rotate_left
              · intro wv hSw; go_simp; all_goals (with_reducible rfl)
              (try simp only [List.getElem_toArray, List.getElem_cons_succ, List.getElem_cons_zero, put_at, List.set])
              refine wpAnyL_take (i := 3) (v := ?_) rfl (by kernel_rfl) (by kernel_rfl) (by kernel_rfl) (by kernel_rfl) (fun _ _ _ h => h) (by kernel_rfl) hClosed (Or.inl ⟨by rfl, ?_⟩) hHeld (fun hClosed => ?_)
              rotate_left
              · intro wv hSw; obtain ⟨o1, o2, o3, o4, o5, o6⟩ := CS.out _ hSw; go_simp; all_goals (with_reducible rfl)
              (try simp only [List.getElem_toArray, List.getElem_cons_succ, List.getElem_cons_zero, put_at, List.set])
              refine wpAnyL_take (i := 4) (v := ?_) rfl (by kernel_rfl) (by kernel_rfl) (by kernel_rfl) (by kernel_rfl) (fun _ _ _ h => h) (by kernel_rfl) hClosed (Or.inl ⟨by rfl, ?_⟩) hHeld (fun hClosed => ?_)
              rotate_left
              · intro wv hSw; go_simp; all_goals (with_reducible rfl)
              (try simp only [List.getElem_toArray, List.getElem_cons_succ, List.getElem_cons_zero, put_at, List.set])
              refine wpAnyL_take (i := 5) (v := ?_) rfl (by kernel_rfl) (by kernel_rfl) (by kernel_rfl) (by kernel_rfl) (fun _ _ _ h => h) (by kernel_rfl) hClosed (Or.inl ⟨by rfl, ?_⟩) hHeld (fun hClosed => ?_)
              rotate_left
              · intro wv hSw; go_simp; all_goals (with_reducible rfl)
              (try simp only [List.getElem_toArray, List.getElem_cons_succ, List.getElem_cons_zero, put_at, List.set])
              refine wpAnyL_take (i := 6) (v := ?_) rfl (by kernel_rfl) (by kernel_rfl) (by kernel_rfl) (by kernel_rfl) (fun _ _ _ h => h) (by kernel_rfl) hClosed (Or.inl ⟨by rfl, ?_⟩) hHeld (fun hClosed => ?_)
              rotate_left
              · intro wv hSw; go_simp; all_goals (with_reducible rfl)
              (try simp only [List.getElem_toArray, List.getElem_cons_succ, List.getElem_cons_zero, put_at, List.set])
              refine wpAnyL_take (i := 7) (v := ?_) rfl (by kernel_rfl) (by kernel_rfl) (by kernel_rfl) (by kernel_rfl) (fun _ _ _ h => h) (by kernel_rfl) hClosed (Or.inl ⟨by rfl, ?_⟩) hHeld (fun hClosed => ?_)
              rotate_left
              · intro wv hSw; go_simp; all_goals (with_reducible rfl)
              (try simp only [List.getElem_toArray, List.getElem_cons_succ, List.getElem_cons_zero, put_at, List.set])
              refine wpAnyL_take (i := 8) (v := ?_) rfl (by kernel_rfl) (by kernel_rfl) (by kernel_rfl) (by kernel_rfl) (fun _ _ _ h => h) (by kernel_rfl) hClosed (Or.inl ⟨by rfl, ?_⟩) hHeld (fun hClosed => ?_)
              rotate_left
              · intro wv hSw; obtain ⟨o1, o2, o3, o4, o5, o6⟩ := CS.out _ hSw; go_simp; all_goals (with_reducible rfl)
              (try simp only [List.getElem_toArray, List.getElem_cons_succ, List.getElem_cons_zero, put_at, List.set])
              refine wpAnyL_take (i := 9) (v := ?_) rfl (by kernel_rfl) (by kernel_rfl) (by kernel_rfl) (by kernel_rfl) (fun _ _ _ h => h) (by kernel_rfl) hClosed (Or.inl ⟨by rfl, ?_⟩) hHeld (fun hClosed => ?_)
              rotate_left
              · intro wv hSw; go_simp; all_goals (with_reducible rfl)
              (try simp only [List.getElem_toArray, List.getElem_cons_succ, List.getElem_cons_zero, put_at, List.set])
              refine wpAnyL_take (i := 10) (v := ?_) rfl (by kernel_rfl) (by kernel_rfl) (by kernel_rfl) (by kernel_rfl) (fun _ _ _ h => h) (by kernel_rfl) hClosed (Or.inl ⟨by rfl, ?_⟩) hHeld (fun hClosed => ?_)
              rotate_left
              · intro wv hSw; go_simp; all_goals (with_reducible rfl)
              (try simp only [List.getElem_toArray, List.getElem_cons_succ, List.getElem_cons_zero, put_at, List.set])
              refine wpAnyL_take (i := 11) (v := ?_) rfl (by kernel_rfl) (by kernel_rfl) (by kernel_rfl) (by kernel_rfl) (fun _ _ _ h => h) (by kernel_rfl) hClosed (Or.inl ⟨by rfl, ?_⟩) hHeld (fun hClosed => ?_)
              rotate_left
              · intro wv hSw; go_simp; all_goals (with_reducible rfl)
              (try simp only [List.getElem_toArray, List.getElem_cons_succ, List.getElem_cons_zero, put_at, List.set])
              refine wpAnyL_take (i := 12) (v := ?_) rfl (by kernel_rfl) (by kernel_rfl) (by kernel_rfl) (by kernel_rfl) (fun _ _ _ h => h) (by kernel_rfl) hClosed (Or.inl ⟨by rfl, ?_⟩) hHeld (fun hClosed => ?_)
              rotate_left
              · intro wv hSw; obtain ⟨o1, o2, o3, o4, o5, o6⟩ := CS.out _ hSw; go_simp; all_goals (with_reducible rfl)
              (try simp only [List.getElem_toArray, List.getElem_cons_succ, List.getElem_cons_zero, put_at, List.set])
              refine wpAnyL_take (i := 13) (v := ?_) rfl (by kernel_rfl) (by kernel_rfl) (by kernel_rfl) (by kernel_rfl) (fun _ _ _ h => h) (by kernel_rfl) hClosed (Or.inl ⟨by rfl, ?_⟩) hHeld (fun hClosed => ?_)
              rotate_left
              · intro wv hSw; go_simp; all_goals (with_reducible rfl)
              (try simp only [List.getElem_toArray, List.getElem_cons_succ, List.getElem_cons_zero, put_at, List.set])
              refine wpAnyL_take (i := 14) (v := ?_) rfl (by kernel_rfl) (by kernel_rfl) (by kernel_rfl) (by kernel_rfl) (fun _ _ _ h => h) (by kernel_rfl) hClosed (Or.inl ⟨by rfl, ?_⟩) hHeld (fun hClosed => ?_)
              rotate_left
              · intro wv hSw; go_simp; all_goals (with_reducible rfl)
              (try simp only [List.getElem_toArray, List.getElem_cons_succ, List.getElem_cons_zero, put_at, List.set])
              refine wpAnyL_take (i := 15) (v := ?_) rfl (by kernel_rfl) (by kernel_rfl) (by kernel_rfl) (by kernel_rfl) (fun _ _ _ h => h) (by kernel_rfl) hClosed (Or.inl ⟨by rfl, ?_⟩) hHeld (fun hClosed => ?_)
              rotate_left
              · intro wv hSw; go_simp; all_goals (with_reducible rfl)
              (try simp only [List.getElem_toArray, List.getElem_cons_succ, List.getElem_cons_zero, put_at, List.set])
              refine wpAnyL_take (i := 16) (v := ?_) rfl (by kernel_rfl) (by kernel_rfl) (by kernel_rfl) (by kernel_rfl) (fun _ _ _ h => h) (by kernel_rfl) hClosed (Or.inl ⟨by rfl, ?_⟩) hHeld (fun hClosed => ?_)
              rotate_left
              · intro wv hSw; obtain ⟨o1, o2, o3, o4, o5, o6⟩ := CS.out _ hSw; go_simp; all_goals (with_reducible rfl)
              (try simp only [List.getElem_toArray, List.getElem_cons_succ, List.getElem_cons_zero, put_at, List.set])
              refine wpAnyL_take (i := 17) (v := ?_) rfl (by kernel_rfl) (by kernel_rfl) (by kernel_rfl) (by kernel_rfl) (fun _ _ _ h => h) (by kernel_rfl) hClosed (Or.inl ⟨by rfl, ?_⟩) hHeld (fun hClosed => ?_)
              rotate_left
              · intro wv hSw; go_simp; all_goals (with_reducible rfl)
              (try simp only [List.getElem_toArray, List.getElem_cons_succ, List.getElem_cons_zero, put_at, List.set])
              refine wpAnyL_take (i := 18) (v := ?_) rfl (by kernel_rfl) (by kernel_rfl) (by kernel_rfl) (by kernel_rfl) (fun _ _ _ h => h) (by kernel_rfl) hClosed (Or.inl ⟨by rfl, ?_⟩) hHeld (fun hClosed => ?_)
              rotate_left
              · intro wv hSw; go_simp; all_goals (with_reducible rfl)
              (try simp only [List.getElem_toArray, List.getElem_cons_succ, List.getElem_cons_zero, put_at, List.set])
              refine wpAnyL_take (i := 19) (v := ?_) rfl (by kernel_rfl) (by kernel_rfl) (by kernel_rfl) (by kernel_rfl) (fun _ _ _ h => h) (by kernel_rfl) hClosed (Or.inl ⟨by rfl, ?_⟩) hHeld (fun hClosed => ?_)
              rotate_left
              · intro wv hSw; go_simp; all_goals (with_reducible rfl)
              (try simp only [List.getElem_toArray, List.getElem_cons_succ, List.getElem_cons_zero, put_at, List.set])
              refine wpAnyL_take (i := 20) (v := ?_) rfl (by kernel_rfl) (by kernel_rfl) (by kernel_rfl) (by kernel_rfl) (fun _ _ _ h => h) (by kernel_rfl) hClosed (Or.inl ⟨by rfl, ?_⟩) hHeld (fun hClosed => ?_)
              rotate_left
              · intro wv hSw; obtain ⟨o1, o2, o3, o4, o5, o6⟩ := CS.out _ hSw; go_simp; all_goals (with_reducible rfl)
              (try simp only [List.getElem_toArray, List.getElem_cons_succ, List.getElem_cons_zero, put_at, List.set])
              refine wpAnyL_take (i := 21) (v := ?_) rfl (by kernel_rfl) (by kernel_rfl) (by kernel_rfl) (by kernel_rfl) (fun _ _ _ h => h) (by kernel_rfl) hClosed (Or.inl ⟨by rfl, ?_⟩) hHeld (fun hClosed => ?_)
              rotate_left
              · intro wv hSw; go_simp; all_goals (with_reducible rfl)
              (try simp only [List.getElem_toArray, List.getElem_cons_succ, List.getElem_cons_zero, put_at, List.set])
              refine wpAnyL_one (i := 22) rfl (by kernel_rfl) (by kernel_rfl) hClosed (fun KK hK => ?_)
              go_simp
              obtain ⟨wc1, be, hw1, hb1, L1, ce, X1⟩ := newEl #[.int .u8 x, .int .i64 (next + (j : Int))] 57 (Below.refl wc.heap.size wc)
              rw [hw1, hb1]
              refine hK.out _ _ ?_ (fun hClosed hHeld => ?_)
              · exact gb_later hHeld X1
              clear hK KK
              (first | simp only [List.getElem_toArray, List.getElem_cons_succ, List.getElem_cons_zero, put_at, List.set] | (try simp only [put_at, List.set]))
              have CE := Lib.hid ce
              have BW2 := Lib.hid (BW.out.trans (X1.mono BW.out.size))
              have RW := Lib.hid (LS.out.1.later BW2.out)
              have OE := Lib.hid (OES.out _ BW2.out)
              have szB : B ≤ wc1.heap.size := Nat.le_trans szL BW2.out.size
              clear ce L1 X1 hw1 hb1 BW OES
              refine wpAnyL_one (i := 23) rfl (by kernel_rfl) (by kernel_rfl) hClosed (fun KK hK => ?_)
              refine step_appE rowBy rfl _ _ rfl B A L C (byC (bs ++ mkB next (b.take j))) rfl OE.out (some ⟨be, 0, none⟩) 1 1 (byL (x, next + (j : Int))) rfl rfl CE.out.rd (byL_one _) (by omega) (by decide) szB (L + 1) rfl (byC (bs ++ mkB next (b.take (j + 1)))) HZ.out ?_
              rintro a1 c1 w4 q1 q2 q3 q4
              refine hK.out _ _ ?_ (fun hClosed hHeld => ?_)
              · exact gb_trans hHeld q2
              clear hK KK
              (first | simp only [List.getElem_toArray, List.getElem_cons_succ, List.getElem_cons_zero, put_at, List.set] | (try simp only [put_at, List.set]))
              have GF := Lib.hid (GFS.out w4 hHeld)
              have FF := Lib.hid (FIN.out wc1 BW2.out a1 c1 w4 q1 q2 q4)
              clear q1 q2 q3 q4 CE OE RW FIN
              refine wpAnyL_take (i := 24) (v := ?_) rfl (by kernel_rfl) (by kernel_rfl) (by kernel_rfl) (by kernel_rfl) (fun _ _ _ h => h) (by kernel_rfl) hClosed (Or.inl ⟨by rfl, ?_⟩) hHeld (fun hClosed => ?_)
              rotate_left
              · intro wv hSw; go_simp; all_goals (with_reducible rfl)
              (try simp only [List.getElem_toArray, List.getElem_cons_succ, List.getElem_cons_zero, put_at, List.set])
              refine wpAnyL_take (i := 25) (v := ?_) rfl (by kernel_rfl) (by kernel_rfl) (by kernel_rfl) (by kernel_rfl) (fun _ _ _ h => h) (by kernel_rfl) hClosed (Or.inl ⟨by rfl, ?_⟩) hHeld (fun hClosed => ?_)
              rotate_left
              · intro wv hSw; go_simp; all_goals (with_reducible rfl)
              (try simp only [List.getElem_toArray, List.getElem_cons_succ, List.getElem_cons_zero, put_at, List.set])
              refine wpAnyL_last rfl (by kernel_rfl) (by kernel_rfl) (fun KK hK => ?_)
              obtain ⟨e9, f9, l9⟩ := GF.out
              go_simp
              refine hK.out _ _ ?_
              (try simp only [put_at, List.set])
              have nb := FF.out.1.box
              have n2 := nb.cell 2
              have n2f := nb.free 2
              have nl := nb.lt
              have NX2 := Lib.hid (NXT.out _ _ FF.out)
              clear FF GF nb
              generalize w4.setCell ⟨gs, k * 2 + 1, none⟩ (.slice a1 (L + 1) c1) = wg at n2 n2f nl NX2 ⊢
              have hww : IntKind.i64.wrap (next + (j : Int) + 1) = next + ((j + 1 : Nat) : Int) := by rw [IntWalk.i64_in _ (by omega)]; omega
              go_wp2
              go_roundw
              case rel => exact ⟨j + 1, _, by omega, by go_num, NX2⟩
              case measure => exact cra_ms m j hlt
            · have hjd : decide ((j : Int) < (m : Int)) = false := decide_eq_false (by omega)
              obtain rfl : j = m := by omega
              have FF := Lib.hid (ENDL.out V2 wl LS.out)
              clear LS
              go_wp2
              go_ret
              exact FF.out
end
end Go.Proofs.Ytomeipjglnpciaa
