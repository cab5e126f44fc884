/- Package match: Allowed; the document's own. -/
import Derived.Test.YtodlecjbpmggiaaGreatDoorMtRule
namespace Go.Proofs.YtodlecjbpmggiaaGreatDoor
open Go.RowKit
set_option linter.unusedVariables false
set_option linter.unusedSimpArgs false

theorem take_add {rs : List Rl} {k : Nat} {r : Rl} (h : rs[k]? = some r) : rs.take (k + 1) = rs.take k ++ [r] := by
  obtain ⟨h1, h2⟩ := List.getElem?_eq_some_iff.1 h
  rw [List.take_succ_eq_append_getElem h1, h2]
set_option maxHeartbeats 4000000 in
set_option maxRecDepth 100000 in
theorem allowed_at (rs : List Rl) (a : Option Addr) (len cap : Nat) (path path' : ByteArray) (b : Bool) (hpn : nfB path = path') (hb : b = true ↔ allowP rs path') (w : World) (hlen : rs.length = len) (hr : RdR w a rs) (hl : len ≤ 1000) (hsz : ∀ r ∈ rs, r.pat.size ≤ 10000) (hps : path.size ≤ 10000) (hT : TabsM w) :
    Calls Tryz.prog 21 #[.slice a len cap, .string path] w fun e w' => e = .returned (.bool b) ∧ Below w.heap.size w w' := by
  have ss : path'.size ≤ 100000 := by have := nfB_size path; rw [hpn] at this; omega
  have HT := Lib.hid hT
  have HB := Lib.hid hb
  have HPN := Lib.hid hpn
  have HR := Lib.hid hr
  have HSZ := Lib.hid hsz
  have HLEN := Lib.hid hlen
  clear hT hb hpn hr hsz hlen
  go_enter Tryz.func21, Tryz.ntmps21
  go_wp2_with fail
  refine (normal_at path path' HPN.out hps _ HT.out.1).mono ?_
  rintro e w1 ⟨rfl, hb1⟩
  have B1 := Lib.hid hb1
  clear hb1
  go_wp2_with fail
  go_loopw [5, 6, 8, 9, 14] (fun L A _ _ i wr => ∃ (k : Nat) (Lv : Int) (Av : Bool), k ≤ len ∧ i = .int .i64 k ∧ L = .int .i64 Lv ∧ A = .bool Av ∧ -1 ≤ Lv ∧ Lv ≤ 100000 ∧ Hid (Below w.heap.size w wr) ∧ Hid (Alw (rs.take k) path' Lv Av)) (fun _ _ _ _ i _ => len - (intOf i).toNat)
  case atStart => exact ⟨0, -1, true, by omega, rfl, rfl, rfl, by omega, by omega, B1, Lib.hid (by rw [List.take_zero]; exact Alw.start path')⟩
  case round =>
    clear B1
    obtain ⟨k, Lv, Av, hk, rfl, rfl, rfl, hL1, hL2, BR, HA⟩ := hrel
    by_cases hlt : k < len
    · have hkd : decide ((k : Int) < (len : Int)) = true := by simp; omega
      obtain ⟨r, hrk⟩ : ∃ r, rs[k]? = some r := ⟨rs[k]'(by have := HLEN.out; omega), List.getElem?_eq_getElem _⟩
      obtain ⟨bb, off, ha, hc⟩ := HR.out
      have ha' := ha (by have := HLEN.out; omega)
      subst ha'
      obtain ⟨q0, q1⟩ := hc k r hrk
      have c0 := (BR.out.cell (World.block_lt_of_cell? _ _ q0)).trans q0
      have c1 := (BR.out.cell (World.block_lt_of_cell? _ _ q1)).trans q1
      have hrs : r.pat.size ≤ 10000 := HSZ.out r (List.mem_of_getElem? hrk)
      have HRK := Lib.hid (take_add hrk)
      have hbs := BR.out.size
      have TR := Lib.hid (HT.out.later BR.out)
      obtain ⟨pn, hpn⟩ : ∃ p, nfB r.pat = p := ⟨_, rfl⟩
      have hpns : pn.size ≤ 100000 := by have := nfB_size r.pat; rw [hpn] at this; omega
      have HN := Lib.hid hpn
      obtain ⟨wo, rfl⟩ : ∃ x, x = wr := ⟨_, rfl⟩
      have bx := Box.new wo #[.bool r.allow, .string r.pat] 30
      have BX := Lib.hid bx
      have TA := Lib.hid (TR.out.later ((Below.refl wo.heap.size wo).alloc (Nat.le_refl _) (.cells #[.bool r.allow, .string r.pat] 30)))
      have BA := Lib.hid (BR.out.alloc hbs (.cells #[.bool r.allow, .string r.pat] 30))
      clear ha hc q0 q1 hrk hpn bx
      go_wp2_with fail
      refine (normal_at r.pat pn HN.out hrs _ TA.out.1).mono ?_
      rintro e w2 ⟨rfl, hb2⟩
      have b2 := BX.out.later hb2
      have T2 := Lib.hid (TA.out.later hb2)
      have B2 := Lib.hid (BA.out.trans (hb2.mono BA.out.size))
      have d0 : w2.cell? ⟨wo.heap.size, 0, none⟩ = some (.bool r.allow) := by rw [b2.cell 0]; rfl
      have hw2 : wo.heap.size < w2.heap.size := b2.lt
      clear c0 c1 hb2 b2
      by_cases hsh : (pn.size : Int) < Lv
      · have hsd : decide ((pn.size : Int) < Lv) = true := by simpa using hsh
        have HA2 : Hid (Alw (rs.take (k + 1)) path' Lv Av) := Lib.hid (by rw [HRK.out]; exact HA.out.short (by unfold lng; rw [HN.out]; exact hsh))
        clear hsh
        go_wp2
        go_roundw
        case rel => exact ⟨k + 1, Lv, Av, by omega, by go_num, rfl, rfl, hL1, hL2, B2, HA2⟩
        case measure => (simp [intOf]); try omega
      · have hsd : decide ((pn.size : Int) < Lv) = false := by simpa using hsh
        obtain ⟨sb, hsb⟩ : ∃ sb, MM (dl pn) (dl path') = sb := ⟨_, rfl⟩
        have HSB := Lib.hid hsb
        have hge : Lv ≤ (pn.size : Int) := by omega
        clear hsb hsh
        go_wp2_with fail
        refine (matches_at pn path' sb HSB.out hpns ss _ T2.out).mono ?_
        rintro e w3 ⟨rfl, hb3⟩
        have B3 := Lib.hid (B2.out.trans (hb3.mono B2.out.size))
        have d3 := (hb3.cell (p := ⟨wo.heap.size, 0, none⟩) hw2).trans d0
        clear hb3 d0
        cases sb
        · have HA2 : Hid (Alw (rs.take (k + 1)) path' Lv Av) := Lib.hid (by rw [HRK.out]; exact HA.out.skip (by unfold spk; rw [HN.out]; exact HSB.out))
          go_wp2
          go_roundw
          case rel => exact ⟨k + 1, Lv, Av, by omega, by go_num, rfl, rfl, hL1, hL2, B3, HA2⟩
          case measure => (simp [intOf]); try omega
        · have HA2 : Hid (Alw (rs.take (k + 1)) path' (pn.size : Int) (r.allow || (Av && (pn.size : Int) == Lv))) := Lib.hid (by
            have := HA.out.take (r := r) (by unfold spk; rw [HN.out]; exact HSB.out) (by unfold lng; rw [HN.out]; exact hge)
            unfold lng at this
            rw [HN.out] at this
            rw [HRK.out]
            exact this)
          obtain ⟨eb, heb⟩ : ∃ eb, ((pn.size : Int) == Lv) = eb := ⟨_, rfl⟩
          obtain ⟨al, hal⟩ : ∃ al, r.allow = al := ⟨_, rfl⟩
          rw [hal] at HA2 d3
          rw [heb] at HA2
          have HEB := heb
          clear hal heb
          cases al <;> cases Av <;> cases eb
          all_goals
            go_wp2
            go_roundw
            case rel => exact ⟨k + 1, _, _, by omega, by go_num, rfl, rfl, by omega, by omega, B3, HA2⟩
            case measure => (simp [intOf]); try omega
    · have hkd : decide ((k : Int) < (len : Int)) = false := by simp; omega
      have HF : Hid (Av = b) := Lib.hid (by
        have h1 := HA.out.done
        rw [List.take_of_length_le (by have := HLEN.out; omega)] at h1
        exact Bool.eq_iff_iff.2 (h1.trans HB.out.symm))
      go_wp2
      go_ret
      rw [HF.out]
      exact ⟨rfl, BR.out⟩
set_option maxHeartbeats 8000000 in
set_option maxRecDepth 100000 in
theorem rallowed_at (rs : List Rl) (a : Option Addr) (len cap : Nat) (path path' : ByteArray) (b : Bool) (hpn : nfB path = path') (hb : b = true ↔ allowP rs path') (w : World) (hlen : rs.length = len) (hr : RdR w a rs) (hl : len ≤ 1000) (hsz : ∀ r ∈ rs, r.pat.size ≤ 10000) (hps : path.size ≤ 10000) :
    Calls Tryz.prog 22 #[.slice a len cap, .string path] w fun e w' => e = .returned (.bool b) ∧ Below w.heap.size w w' := by
  have HB := Lib.hid hb
  have HPN := Lib.hid hpn
  have HR := Lib.hid hr
  have HSZ := Lib.hid hsz
  have HLEN := Lib.hid hlen
  clear hb hpn hr hsz hlen
  go_enter Tryz.func22, Tryz.ntmps22
  go_wp2_with fail
  go_loopw [5, 6] (fun L i wr => ∃ (k : Nat) (Lv : Int), k ≤ len ∧ i = .int .i64 k ∧ L = .int .i64 Lv ∧ -1 ≤ Lv ∧ Lv ≤ 100000 ∧ Hid (Below w.heap.size w wr) ∧ Hid (∃ A, Alw (rs.take k) path' Lv A)) (fun _ i _ => len - (intOf i).toNat)
  case atStart => exact ⟨0, -1, by omega, rfl, rfl, by omega, by omega, Lib.hid (Below.refl _ _), Lib.hid ⟨true, by rw [List.take_zero]; exact Alw.start path'⟩⟩
  case round =>
    obtain ⟨k, Lv, hk, rfl, rfl, hL1, hL2, B0, HA⟩ := hrel
    by_cases hlt : k < len
    · have hkd : decide ((k : Int) < (len : Int)) = true := by simp; omega
      obtain ⟨r, hrk⟩ : ∃ r, rs[k]? = some r := ⟨rs[k]'(by have := HLEN.out; omega), List.getElem?_eq_getElem _⟩
      obtain ⟨bb, off, ha, hc⟩ := HR.out
      have ha' := ha (by have := HLEN.out; omega)
      subst ha'
      obtain ⟨q0, q1⟩ := hc k r hrk
      have c00 := (B0.out.cell (World.block_lt_of_cell? _ _ q0)).trans q0
      have c10 := (B0.out.cell (World.block_lt_of_cell? _ _ q1)).trans q1
      have hrs : r.pat.size ≤ 10000 := HSZ.out r (List.mem_of_getElem? hrk)
      have HRK := Lib.hid (take_add hrk)
      obtain ⟨pn, hpn⟩ : ∃ p, nfB r.pat = p := ⟨_, rfl⟩
      have hpns : pn.size ≤ 100000 := by have := nfB_size r.pat; rw [hpn] at this; omega
      have HN := Lib.hid hpn
      obtain ⟨sb, hsb⟩ : ∃ sb, MM (dl pn) (dl path') = sb := ⟨_, rfl⟩
      have HSB := Lib.hid hsb
      clear ha hc q0 q1 hrk hpn hsb
      go_wp2_with fail
      refine (rmatch_at r.pat path pn path' sb HN.out HPN.out HSB.out hrs hps _).mono ?_
      rintro e w1 ⟨rfl, hb1⟩
      have B1 := Lib.hid (B0.out.trans (hb1.mono B0.out.size))
      have c01 := (hb1.cell (World.block_lt_of_cell? _ _ c00)).trans c00
      have c11 := (hb1.cell (World.block_lt_of_cell? _ _ c10)).trans c10
      clear hb1 c00 c10
      cases sb
      · have HA2 : Hid (∃ A, Alw (rs.take (k + 1)) path' Lv A) := Lib.hid (by
          obtain ⟨A, hA⟩ := HA.out
          rw [HRK.out]
          exact ⟨A, hA.skip (by unfold spk; rw [HN.out]; exact HSB.out)⟩)
        go_wp2
        go_roundw
        case rel => exact ⟨k + 1, Lv, by omega, by go_num, rfl, by omega, by omega, B1, HA2⟩
        case measure => (simp [intOf]); try omega
      · go_wp2_with fail
        refine (form_at r.pat pn HN.out hrs _).mono ?_
        rintro e w2 ⟨rfl, hb2⟩
        have B2 := Lib.hid (B1.out.trans (hb2.mono B1.out.size))
        have c02 := (hb2.cell (World.block_lt_of_cell? _ _ c01)).trans c01
        have c12 := (hb2.cell (World.block_lt_of_cell? _ _ c11)).trans c11
        clear hb2 c01 c11
        by_cases hgt : Lv < (pn.size : Int)
        · have hgd : decide (Lv < (pn.size : Int)) = true := by simpa using hgt
          have HA2 : Hid (∃ A, Alw (rs.take (k + 1)) path' (pn.size : Int) A) := Lib.hid (by
            obtain ⟨A, hA⟩ := HA.out
            have := hA.take (r := r) (by unfold spk; rw [HN.out]; exact HSB.out) (by unfold lng; rw [HN.out]; omega)
            unfold lng at this
            rw [HN.out] at this
            rw [HRK.out]
            exact ⟨_, this⟩)
          clear hgt
          go_wp2_with fail
          refine (form_at r.pat pn HN.out hrs _).mono ?_
          rintro e w3 ⟨rfl, hb3⟩
          have B3 := Lib.hid (B2.out.trans (hb3.mono B2.out.size))
          have c03 := (hb3.cell (World.block_lt_of_cell? _ _ c02)).trans c02
          have c13 := (hb3.cell (World.block_lt_of_cell? _ _ c12)).trans c12
          clear hb3 c02 c12
          go_wp2
          go_roundw
          case rel => exact ⟨k + 1, (pn.size : Int), by omega, by go_num, rfl, by omega, by omega, B3, HA2⟩
          case measure => (simp [intOf]); try omega
        · have hgd : decide (Lv < (pn.size : Int)) = false := by simpa using hgt
          have HA2 : Hid (∃ A, Alw (rs.take (k + 1)) path' Lv A) := Lib.hid (by
            obtain ⟨A, hA⟩ := HA.out
            rw [HRK.out]
            by_cases e : (pn.size : Int) = Lv
            · have := hA.take (r := r) (by unfold spk; rw [HN.out]; exact HSB.out) (by unfold lng; rw [HN.out]; omega)
              unfold lng at this
              rw [HN.out, e] at this
              exact ⟨_, this⟩
            · exact ⟨A, hA.short (by unfold lng; rw [HN.out]; omega)⟩)
          clear hgt
          go_wp2
          go_roundw
          case rel => exact ⟨k + 1, Lv, by omega, by go_num, rfl, by omega, by omega, B2, HA2⟩
          case measure => (simp [intOf]); try omega
    · have hkd : decide ((k : Int) < (len : Int)) = false := by simp; omega
      have HA2 : Hid (∃ A, Alw rs path' Lv A) := Lib.hid (by
        have := HA.out
        rwa [List.take_of_length_le (by have := HLEN.out; omega)] at this)
      clear HA
      have HA := HA2
      clear HA2
      go_wp2_with fail
      clear hk hlt hkd
      go_loopw [7] (fun i wr => ∃ (k : Nat), k ≤ len ∧ i = .int .i64 k ∧ Hid (Below w.heap.size w wr) ∧ Hid (∀ q ∈ rs.take k, ¬ (q.allow = true ∧ (lng q : Int) = Lv ∧ spk q path' = true))) (fun i _ => len - (intOf i).toNat)
      case atStart => exact ⟨0, by omega, rfl, B0, Lib.hid (by simp)⟩
      case round =>
        clear B0
        obtain ⟨k, hk, rfl, B0, HJ⟩ := hrel
        by_cases hlt : k < len
        · have hkd : decide ((k : Int) < (len : Int)) = true := by simp; omega
          obtain ⟨r, hrk⟩ : ∃ r, rs[k]? = some r := ⟨rs[k]'(by have := HLEN.out; omega), List.getElem?_eq_getElem _⟩
          obtain ⟨bb, off, ha, hc⟩ := HR.out
          have ha' := ha (by have := HLEN.out; omega)
          subst ha'
          obtain ⟨q0, q1⟩ := hc k r hrk
          have c00 := (B0.out.cell (World.block_lt_of_cell? _ _ q0)).trans q0
          have c10 := (B0.out.cell (World.block_lt_of_cell? _ _ q1)).trans q1
          have hrs : r.pat.size ≤ 10000 := HSZ.out r (List.mem_of_getElem? hrk)
          have HRK := Lib.hid (take_add hrk)
          obtain ⟨pn, hpn⟩ : ∃ p, nfB r.pat = p := ⟨_, rfl⟩
          have hpns : pn.size ≤ 100000 := by have := nfB_size r.pat; rw [hpn] at this; omega
          have HN := Lib.hid hpn
          obtain ⟨sb, hsb⟩ : ∃ sb, MM (dl pn) (dl path') = sb := ⟨_, rfl⟩
          have HSB := Lib.hid hsb
          clear ha hc q0 q1 hrk hpn hsb
          obtain ⟨al, hal⟩ : ∃ al, r.allow = al := ⟨_, rfl⟩
          rw [hal] at c00
          have HAL := Lib.hid hal
          clear hal
          cases al
          · have HJ2 : Hid (∀ q ∈ rs.take (k + 1), ¬ (q.allow = true ∧ (lng q : Int) = Lv ∧ spk q path' = true)) := Lib.hid (by
              rw [HRK.out]
              intro q hq
              rcases List.mem_append.1 hq with hq | hq
              · exact HJ.out q hq
              · simp at hq
                subst hq
                rintro ⟨x1, x2, x3⟩
                rw [HAL.out] at x1; cases x1)
            go_wp2
            go_roundw
            case rel => exact ⟨k + 1, by omega, by go_num, B0, HJ2⟩
            case measure => (simp [intOf]); try omega
          · go_wp2_with fail
            refine (form_at r.pat pn HN.out hrs _).mono ?_
            rintro e w1 ⟨rfl, hb1⟩
            have B1 := Lib.hid (B0.out.trans (hb1.mono B0.out.size))
            have c01 := (hb1.cell (World.block_lt_of_cell? _ _ c00)).trans c00
            have c11 := (hb1.cell (World.block_lt_of_cell? _ _ c10)).trans c10
            clear hb1 c00 c10
            cases heb : (pn.size : Int) == Lv with
            | false =>
              have HJ2 : Hid (∀ q ∈ rs.take (k + 1), ¬ (q.allow = true ∧ (lng q : Int) = Lv ∧ spk q path' = true)) := Lib.hid (by
                rw [HRK.out]
                intro q hq
                rcases List.mem_append.1 hq with hq | hq
                · exact HJ.out q hq
                · simp at hq
                  subst hq
                  rintro ⟨x1, x2, x3⟩
                  unfold lng at x2; rw [HN.out] at x2; rw [beq_eq_false_iff_ne] at heb; exact heb x2)
              go_wp2
              go_roundw
              case rel => exact ⟨k + 1, by omega, by go_num, B1, HJ2⟩
              case measure => (simp [intOf]); try omega
            | true =>
              go_wp2_with fail
              refine (rmatch_at r.pat path pn path' sb HN.out HPN.out HSB.out hrs hps _).mono ?_
              rintro e w2 ⟨rfl, hb2⟩
              have B2 := Lib.hid (B1.out.trans (hb2.mono B1.out.size))
              have c02 := (hb2.cell (World.block_lt_of_cell? _ _ c01)).trans c01
              have c12 := (hb2.cell (World.block_lt_of_cell? _ _ c11)).trans c11
              clear hb2 c01 c11
              cases sb
              · have HJ2 : Hid (∀ q ∈ rs.take (k + 1), ¬ (q.allow = true ∧ (lng q : Int) = Lv ∧ spk q path' = true)) := Lib.hid (by
                  rw [HRK.out]
                  intro q hq
                  rcases List.mem_append.1 hq with hq | hq
                  · exact HJ.out q hq
                  · simp at hq
                    subst hq
                    rintro ⟨x1, x2, x3⟩
                    unfold spk at x3; rw [HN.out, HSB.out] at x3; cases x3)
                go_wp2
                go_roundw
                case rel => exact ⟨k + 1, by omega, by go_num, B2, HJ2⟩
                case measure => (simp [intOf]); try omega
              · have HF : Hid (b = true) := Lib.hid (by
                  rw [HB.out]
                  obtain ⟨A, hA⟩ := HA.out
                  rw [← hA.done]
                  have he : (lng r : Int) = Lv := by
                    unfold lng
                    rw [HN.out]
                    exact beq_iff_eq.1 heb
                  have hm : r ∈ rs := by
                    have : r ∈ rs.take (k + 1) := by rw [HRK.out]; simp
                    exact List.mem_of_mem_take this
                  exact (hA.some (by omega)).2.2.2 ⟨r, hm, HAL.out, by unfold spk; rw [HN.out]; exact HSB.out, he⟩)
                go_wp2
                go_ret
                rw [HF.out]
                exact ⟨rfl, B2.out⟩
        · have hkd : decide ((k : Int) < (len : Int)) = false := by simp; omega
          have HF : Hid (decide (Lv < 0) = b) := Lib.hid (by
            obtain ⟨A, hA⟩ := HA.out
            have h1 := HJ.out
            rw [List.take_of_length_le (by have := HLEN.out; omega)] at h1
            rw [Bool.eq_iff_iff, decide_eq_true_eq, HB.out, ← hA.done]
            constructor
            · intro h
              exact (hA.none (by omega)).1
            · intro h
              by_cases e : Lv = -1
              · omega
              · obtain ⟨r, r1, r2, r3, r4⟩ := (hA.some e).2.2.1 h
                exact absurd ⟨r2, r4, r3⟩ (h1 r r1))
          go_wp2
          go_ret
          rw [HF.out]
          exact ⟨rfl, B0.out⟩
end Go.Proofs.YtodlecjbpmggiaaGreatDoor
