/- The document's lines of a text. -/
import Derived.Test.YtodlecjbpmggiaaGreatDoorLnRef
import Derived.Test.YtodlecjbpmggiaaGreatDoorLnPrs
namespace Go.Proofs.YtodlecjbpmggiaaGreatDoor
open Go.RowKit
set_option linter.unusedVariables false
set_option linter.unusedSimpArgs false
set_option maxRecDepth 10000

theorem rowRL : RowTy Tryz.prog 45 62 2 32 := ⟨Tryz.underlying45, ⟨.agg #[.string ⟨#[]⟩, .string ⟨#[]⟩], by kernel_rfl, rfl⟩, by decide⟩
def RLinesP (L : List (List Int × List Int)) (w : World) (e : Ending) (w' : World) : Prop := ∃ (a : Option Addr) (cap : Nat), e = .returned (.slice a L.length cap) ∧ Own w' w.heap.size 62 2 a L.length cap (lnC L) ∧ Below w.heap.size w w'
structure RL (lb : List Int) (L0 : List (List Int × List Int)) (w wr : World) (k f : Nat) (a : Option Addr) (cap m : Nat) (L : List (List Int × List Int)) : Prop where
  own : Own wr w.heap.size 62 2 a m cap (lnC L)
  bel : Below w.heap.size w wr
  is : (k ≤ lb.length ∧ f ≤ k ∧ L0 = L ++ (pcs ((lb.drop f).take (k - f)) (lb.drop k)).filterMap sayL) ∨ (k = lb.length + 1 ∧ L0 = L)
  len : L.length = m
theorem lim_four (a b c : Int) (t : List Int) : ([239, 187, 191] : List Int).isPrefixOf (a :: b :: c :: t) = (decide (a = 239) && decide (b = 187) && decide (c = 191)) := by
  have e : ∀ x y : Int, (x == y) = decide (y = x) := fun x y => by
    rw [Bool.eq_iff_iff, beq_iff_eq, decide_eq_true_eq]
    exact eq_comm
  simp only [List.isPrefixOf_cons_cons, List.isPrefixOf_nil_left, Bool.and_true, Bool.and_assoc, e]
theorem lim_three (x : ByteArray) (h : 3 ≤ x.size) : ([239, 187, 191] : List Int).isPrefixOf (btL x) = (decide ((x[0].toNat : Int) = 239) && decide ((x[1].toNat : Int) = 187) && decide ((x[2].toNat : Int) = 191)) := by
  have h0 := ln_cons x 0 (by omega)
  have h1 := ln_cons x 1 (by omega)
  have h2 := ln_cons x 2 (by omega)
  rw [List.drop_zero] at h0
  rw [h0, h1, h2, lim_four]
theorem lim_short (l : List Int) (h : l.length < 3) : ([239, 187, 191] : List Int).isPrefixOf l = false := by
  match l, h with
  | [], _ => rfl
  | [a], _ => simp [List.isPrefixOf]
  | [a, b], _ => simp [List.isPrefixOf]
set_option maxHeartbeats 4000000 in
theorem rparse_lines (s : ByteArray) (hs : s.size ≤ 100000) (L0 : List (List Int × List Int)) (hL0 : linesL (btL s) = L0) (w : World) :
    Calls Tryz.prog 20 #[.string s] w (RLinesP L0 w) := by
  have HL0 := Lib.hid hL0
  clear hL0
  go_enter Tryz.func20, Tryz.ntmps20
  go_upto_if 10 with fail
  go_cut [0] from 8 (fun v wx => ∃ x, v = .string x ∧ x.size ≤ 4096 ∧ Hid (btL x = (btL s).take 4096) ∧ wx = w)
  case first =>
    by_cases h : 4096 < s.size
    · have d1 : decide ((4096 : Int) < (s.size : Int)) = true := decide_eq_true (by omega)
      have d2 : decide (4096 < s.size) = true := decide_eq_true h
      have HX : Hid (btL (s.extract 0 4096) = (btL s).take 4096) := Lib.hid (by rw [ln_extract, List.drop_zero])
      have hz : (s.extract 0 4096).size = 4096 := by simp; omega
      go_wp2
      go_meet
      exact ⟨_, rfl, by omega, HX, rfl⟩
    · have d1 : decide ((4096 : Int) < (s.size : Int)) = false := decide_eq_false (by omega)
      have d2 : decide (4096 < s.size) = false := decide_eq_false h
      have HX : Hid (btL s = (btL s).take 4096) := Lib.hid (by rw [List.take_of_length_le (by rw [btL_length]; omega)])
      go_wp2
      go_meet
      exact ⟨s, rfl, by omega, HX, rfl⟩
  case rest =>
    obtain ⟨x, rfl, hx, HX, he⟩ := hcut
    have he := he.symm
    subst he
    obtain ⟨B, hB⟩ : ∃ B, ([239, 187, 191] : List Int).isPrefixOf (btL x) = B := ⟨_, rfl⟩
    have HBB := Lib.hid hB
    have HPX : Hid (limL (btL s) = if B = true then (btL x).drop 3 else btL x) := Lib.hid (by rw [← hB]; unfold limL; rw [← HX.out])
    have HB3 : Hid (B = true → 3 ≤ x.size) := Lib.hid (fun h => by
      by_cases h3 : 3 ≤ x.size
      · exact h3
      · rw [lim_short _ (by rw [btL_length]; omega)] at hB
        rw [← hB] at h
        cases h)
    clear hB HX
    go_upto_region 3 with fail
    go_cut [30] from 8 (fun v wx => v = .bool B ∧ wx = w)
    case first =>
      by_cases h3 : 3 ≤ x.size
      · have d1 : decide ((3 : Int) ≤ (x.size : Int)) = true := decide_eq_true (by omega)
        have d2 : decide (3 ≤ x.size) = true := decide_eq_true h3
        have HP3 := Lib.hid (lim_three x h3)
        obtain ⟨c0, hc0⟩ : ∃ c : Int, (x[0].toNat : Int) = c := ⟨_, rfl⟩
        obtain ⟨c1, hc1⟩ : ∃ c : Int, (x[1].toNat : Int) = c := ⟨_, rfl⟩
        obtain ⟨c2, hc2⟩ : ∃ c : Int, (x[2].toNat : Int) = c := ⟨_, rfl⟩
        rw [hc0, hc1, hc2] at HP3
        by_cases e0 : c0 = 239
        · have q0 : (c0 == 239) = true := beq_iff_eq.2 e0
          by_cases e1 : c1 = 187
          · have q1 : (c1 == 187) = true := beq_iff_eq.2 e1
            obtain ⟨q, hq⟩ : ∃ q, (c2 == 191) = q := ⟨_, rfl⟩
            have HE : Hid (B = q) := Lib.hid (by
              rw [← HBB.out, HP3.out, decide_eq_true e0, decide_eq_true e1, Bool.true_and, Bool.true_and, ← hq, Bool.eq_iff_iff, decide_eq_true_eq, beq_iff_eq])
            go_wp2
            go_meet
            exact ⟨by rw [HE.out], rfl⟩
          · have q1 : (c1 == 187) = false := beq_eq_false_iff_ne.2 e1
            have HE : Hid (B = false) := Lib.hid (by rw [← HBB.out, HP3.out, decide_eq_false e1, Bool.and_false, Bool.false_and])
            go_wp2
            go_meet
            exact ⟨by rw [HE.out], rfl⟩
        · have q0 : (c0 == 239) = false := beq_eq_false_iff_ne.2 e0
          have HE : Hid (B = false) := Lib.hid (by rw [← HBB.out, HP3.out, decide_eq_false e0, Bool.false_and, Bool.false_and])
          go_wp2
          go_meet
          exact ⟨by rw [HE.out], rfl⟩
      · have d1 : decide ((3 : Int) ≤ (x.size : Int)) = false := decide_eq_false (by omega)
        have d2 : decide (3 ≤ x.size) = false := decide_eq_false h3
        have HE : Hid (B = false) := Lib.hid (by rw [← HBB.out, lim_short _ (by rw [btL_length]; omega)])
        go_wp2
        go_meet
        exact ⟨by rw [HE.out], rfl⟩
    case rest =>
    obtain ⟨rfl, he⟩ := hcut
    have he := he.symm
    subst he
    clear HBB
    go_upto_if 30 with fail
    go_cut [0] from 8 (fun v wx => ∃ b, v = .string b ∧ b.size ≤ 4096 ∧ Hid (btL b = limL (btL s)) ∧ wx = w)
    case first =>
      cases B with
      | true =>
        have h3 := HB3.out rfl
        have HB : Hid (btL (x.extract 3 x.size) = limL (btL s)) := Lib.hid (by
          rw [HPX.out, if_pos rfl, ln_extract, List.take_of_length_le (by rw [List.length_drop, btL_length]; omega)])
        have hz : (x.extract 3 x.size).size ≤ 4096 := by simp; omega
        go_wp2
        go_meet
        exact ⟨_, rfl, hz, HB, rfl⟩
      | false =>
        have HB : Hid (btL x = limL (btL s)) := Lib.hid (by rw [HPX.out, if_neg Bool.false_ne_true])
        go_wp2
        go_meet
        exact ⟨x, rfl, hx, HB, rfl⟩
    case rest =>
      obtain ⟨b, rfl, hb, HB, he⟩ := hcut
      have he := he.symm
      subst he
      clear HPX HB3
      obtain ⟨lb, hlb⟩ : ∃ l, btL b = l := ⟨_, rfl⟩
      have HLB := Lib.hid hlb
      have HLL : Hid (lb.length = b.size) := Lib.hid (by rw [← hlb, btL_length])
      have HP : Hid (L0 = (pcs [] lb).filterMap sayL) := Lib.hid (by rw [← HL0.out, ← hlb, HB.out]; rfl)
      clear hlb HB
      go_wp2_with fail
      go_loopw [3, 4, 5, 6, 7] (fun v f i _ _ wr => ∃ (k fk m : Nat) (a : Option Addr) (cap : Nat) (L : List (List Int × List Int)), k ≤ b.size + 1 ∧ fk ≤ k ∧ f = .int .i64 (fk : Int) ∧ i = .int .i64 (k : Int) ∧ v = .slice a m cap ∧ m ≤ k ∧ w.heap.size ≤ wr.heap.size ∧ Hid (RL lb L0 w wr k fk a cap m L)) (fun _ _ i _ _ _ => b.size + 1 - (intOf i).toNat)
      case atStart => exact ⟨0, 0, 0, some ⟨w.heap.size, 0, none⟩, 0, [], by omega, by omega, rfl, rfl, rfl, by omega, by simp, Lib.hid ⟨Own.lit (cs := #[]) (Nat.le_refl _) (by omega) rfl, (Below.refl _ _).alloc (Nat.le_refl _) _, Or.inl ⟨by omega, by omega, by simpa using HP.out⟩, rfl⟩⟩
      case round =>
        obtain ⟨k, fk, m, a, cap, L, hk, hfk, rfl, rfl, rfl, hm, sz, HR⟩ := hrel
        by_cases hle : k ≤ b.size
        · have d1 : decide ((k : Int) ≤ (b.size : Int)) = true := decide_eq_true (by omega)
          have d1' : decide (k ≤ b.size) = true := decide_eq_true hle
          have HI : Hid (fk ≤ k ∧ L0 = L ++ (pcs ((lb.drop fk).take (k - fk)) (lb.drop k)).filterMap sayL) := Lib.hid (by
            have := HLL.out
            rcases HR.out.is with ⟨_, h2, h3⟩ | ⟨h1, _⟩
            · exact ⟨h2, h3⟩
            · omega)
          obtain ⟨cur, hcur⟩ : ∃ c, (lb.drop fk).take (k - fk) = c := ⟨_, rfl⟩
          have HCUR := Lib.hid hcur
          rw [hcur] at HI
          obtain ⟨q, hq⟩ : ∃ q, (if h : k < b.size then endI (b[k].toNat : Int) else true) = q := ⟨_, rfl⟩
          have HQ := Lib.hid hq
          clear hcur hq
          go_upto_region 10 with fail
          go_cut [55] from 34 to 70 (fun v wx => v = .bool q ∧ wx = wr)
          case first =>
            by_cases hlt : k < b.size
            · have e0 : ((k : Int) == (b.size : Int)) = false := beq_eq_false_iff_ne.2 (by omega)
              have e0' : (k == b.size) = false := beq_eq_false_iff_ne.2 (by omega)
              obtain ⟨c, hc⟩ : ∃ c : Int, (b[k].toNat : Int) = c := ⟨_, rfl⟩
              have HE : Hid (q = endI c) := Lib.hid (by rw [← HQ.out, dif_pos hlt, hc])
              by_cases h1 : c = 10
              · have e1 : (c == 10) = true := beq_iff_eq.2 h1
                have HE2 : Hid (q = true) := Lib.hid (by rw [HE.out, h1]; rfl)
                go_wp2
                go_meet
                exact ⟨by rw [HE2.out], rfl⟩
              · have e1 : (c == 10) = false := beq_eq_false_iff_ne.2 h1
                obtain ⟨r, hr⟩ : ∃ r, (c == 13) = r := ⟨_, rfl⟩
                have HE2 : Hid (q = r) := Lib.hid (by
                  rw [HE.out, ← hr]
                  unfold endI
                  rw [decide_eq_false h1, Bool.false_or, Bool.eq_iff_iff, decide_eq_true_eq, beq_iff_eq])
                go_wp2
                go_meet
                exact ⟨by rw [HE2.out], rfl⟩
            · have hkn : k = b.size := by omega
              have e0 : ((k : Int) == (b.size : Int)) = true := beq_iff_eq.2 (by omega)
              have e0' : (k == b.size) = true := beq_iff_eq.2 hkn
              have HE : Hid (q = true) := Lib.hid (by rw [← HQ.out, dif_neg hlt])
              go_wp2
              go_meet
              exact ⟨by rw [HE.out], rfl⟩
          case rest =>
            obtain ⟨rfl, he⟩ := hcut
            have he := he.symm
            subst he
            cases q with
            | false =>
              have HN : Hid (RL lb L0 w wr (k + 1) fk a cap m L ∧ k < b.size) := Lib.hid (by
                have hq := HQ.out
                by_cases hlt : k < b.size
                · rw [dif_pos hlt] at hq
                  refine ⟨⟨HR.out.own, HR.out.bel, Or.inl ⟨by have := HLL.out; omega, by omega, ?_⟩, HR.out.len⟩, hlt⟩
                  obtain ⟨h1, h2⟩ := HI.out
                  rw [h2, ← HLB.out, ln_cons b k hlt]
                  conv => lhs; unfold pcs
                  rw [hq, if_neg Bool.false_ne_true, ← HCUR.out, ← HLB.out, show k + 1 - fk = (k - fk) + 1 by omega]
                  have e1 : ((btL b).drop fk).take (k - fk + 1) = ((btL b).drop fk).take (k - fk) ++ [(b[k].toNat : Int)] := by
                    rw [List.take_add_one, List.getElem?_drop, show fk + (k - fk) = k by omega, ln_at b k hlt]
                    rfl
                  rw [e1]
                · rw [dif_neg hlt] at hq
                  cases hq)
              have hlt := HN.out.2
              have HN2 := Lib.hid HN.out.1
              clear HN HR HI HQ HCUR
              go_wp2
              go_roundw
              case rel => exact ⟨k + 1, fk, m, a, cap, L, by omega, by omega, rfl, by go_num, rfl, by omega, sz, HN2⟩
              case measure => simp [intOf]; omega
            | true =>
              have hfk2 := HI.out.1
              have HN : Hid (∀ L', L' = L ++ (sayL cur).toList → (k + 1 ≤ lb.length ∧ k + 1 ≤ k + 1 ∧ L0 = L' ++ (pcs ((lb.drop (k + 1)).take (k + 1 - (k + 1))) (lb.drop (k + 1))).filterMap sayL) ∨ (k + 1 = lb.length + 1 ∧ L0 = L')) := Lib.hid (fun L' hL' => by
                have hq := HQ.out
                have hll := HLL.out
                obtain ⟨h1, h2⟩ := HI.out
                have hone : ∀ p : List Int, ∀ ps, List.filterMap sayL (p :: ps) = (sayL p).toList ++ List.filterMap sayL ps := fun p ps => by
                  rw [List.filterMap_cons]
                  cases sayL p <;> rfl
                by_cases hlt : k < b.size
                · rw [dif_pos hlt] at hq
                  left
                  refine ⟨by omega, by omega, ?_⟩
                  rw [h2, ← HLB.out, ln_cons b k hlt]
                  conv => lhs; unfold pcs
                  rw [hq, if_pos rfl, hone, hL', Nat.sub_self, List.take_zero, List.append_assoc]
                · right
                  refine ⟨by omega, ?_⟩
                  rw [h2, hL', List.drop_eq_nil_of_le (by omega)]
                  show L ++ List.filterMap sayL [cur] = _
                  rw [hone]
                  simp)
              obtain ⟨x, hx⟩ : ∃ x, b.extract fk k = x := ⟨_, rfl⟩
              have hxb : btL x = cur := by rw [← hx, ln_extract, HLB.out, HCUR.out]
              have hxz : x.size ≤ 1000000000000000 := by rw [← hx]; simp; omega
              obtain ⟨o, ho⟩ : ∃ o, sayL cur = o := ⟨_, rfl⟩
              have RS := Lib.hid (fun W => rsay_at x hxz o (by rw [hxb]; exact ho) W)
              rw [ho] at HN
              clear HI HQ HCUR hxb hxz ho
              go_wp2_with fail
              refine (RS.out _).mono ?_
              rintro e w2 ⟨k3, v2, rfl, hb2, hkv⟩
              have ow2 := Lib.hid (HR.out.own.later hb2)
              have bw2 := Lib.hid (HR.out.bel.trans (hb2.mono sz))
              have sz2 : wr.heap.size ≤ w2.heap.size := hb2.size
              have LEN := Lib.hid HR.out.len
              have HKV := Lib.hid hkv
              clear hb2 RS HR hkv hx
              cases o with
              | none =>
                simp only [Option.isSome_none]
                have Q : Hid (RL lb L0 w (w2.alloc (.cells #[.string k3, .string v2] 62)) (k + 1) (k + 1) a cap m L) := Lib.hid ⟨ow2.out.alloc _, bw2.out.alloc bw2.out.size _, HN.out L (by simp), LEN.out⟩
                have sq : w.heap.size ≤ (w2.alloc (.cells #[.string k3, .string v2] 62)).heap.size := by simp; omega
                clear ow2 bw2 HN LEN
                go_wp2
                go_roundw
                case rel => exact ⟨k + 1, k + 1, m, a, cap, L, by omega, by omega, by go_num, by go_num, rfl, by omega, sq, Q⟩
                case measure => simp [intOf]; omega
              | some y =>
                obtain ⟨yk, yv⟩ := y
                obtain ⟨e1, e2⟩ := HKV.out _ rfl
                dsimp only at e1 e2
                simp only [Option.isSome_some]
                have HZ : Hid (lnC L ++ (#[Value.string k3, .string v2] : Array Value).toList = lnC (L ++ [(yk, yv)])) := Lib.hid (by rw [lnC_app, e1, e2]; rfl)
                obtain ⟨wB, hwB⟩ : ∃ W, w2.alloc (.cells #[.string k3, .string v2] 62) = W := ⟨_, rfl⟩
                have XB : Box wB w2.heap.size #[.string k3, .string v2] 62 := by rw [← hwB]; exact Box.new _ _ _
                have owB := Lib.hid (show Own wB _ _ _ _ _ _ _ from by rw [← hwB]; exact ow2.out.alloc _)
                have bwB := Lib.hid (show Below w.heap.size w wB from by rw [← hwB]; exact bw2.out.alloc bw2.out.size _)
                have szB2 : w.heap.size ≤ wB.heap.size := by rw [← hwB]; simp; omega
                have post : Hid (∀ (g cap' : Nat) (w3 : World), Own w3 w.heap.size 62 2 (some ⟨g, 0, none⟩) (m + 1) cap' (lnC (L ++ [(yk, yv)])) → Below w.heap.size wB w3 → Hid (RL lb L0 w w3 (k + 1) (k + 1) (some ⟨g, 0, none⟩) cap' (m + 1) (L ++ [(yk, yv)])) ∧ w.heap.size ≤ w3.heap.size) := Lib.hid (fun g cap' w3 h1 h2 => ⟨Lib.hid ⟨h1, bwB.out.trans h2, HN.out _ rfl, by rw [List.length_append, LEN.out]; rfl⟩, Nat.le_trans szB2 h2.size⟩)
                have gl := XB.lt
                have z0 := XB.cell 0
                have z1 := XB.cell 1
                simp only [List.getElem?_toArray, List.getElem?_cons_zero, List.getElem?_cons_succ] at z0 z1
                clear ow2 bw2 HN LEN e1 e2 bwB XB HKV
                go_upto_region 12 with fail
                clear hwB
                go_wp2_with (at_builtin; refine wpList_app1 rowRL rfl _ _ rfl w.heap.size a m cap (lnC L) rfl owB.out #[.string k3, .string v2] rfl rfl (two_one _ _) (by omega) (by decide) szB2 (m + 1) rfl (lnC (L ++ [(yk, yv)])) HZ.out ?_; rintro g cap' w3 ow3 _ bw3 _)
                obtain ⟨Q, q1⟩ := post.out g cap' w3 ow3 bw3
                clear ow3 bw3 post
                go_wp2
                go_roundw
                case rel => exact ⟨k + 1, k + 1, m + 1, some ⟨g, 0, none⟩, cap', L ++ [(yk, yv)], by omega, by omega, by go_num, by go_num, rfl, by omega, q1, Q⟩
                case measure => simp [intOf]; omega
        · have d1 : decide ((k : Int) ≤ (b.size : Int)) = false := decide_eq_false (by omega)
          have d1' : decide (k ≤ b.size) = false := decide_eq_false hle
          have HE : Hid (L0 = L) := Lib.hid (by
            have := HLL.out
            rcases HR.out.is with ⟨h1, _⟩ | ⟨_, h2⟩
            · omega
            · exact h2)
          go_wp2
          go_ret
          refine ⟨a, cap, ?_, ?_, HR.out.bel⟩
          · rw [HE.out, HR.out.len]
            rfl
          · have := HR.out.own
            rw [HE.out, HR.out.len]
            exact this
end Go.Proofs.YtodlecjbpmggiaaGreatDoor
