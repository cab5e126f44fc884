/- Package match: Allowed; the document's own. -/
import Derived.Test.YtodlecjbpmggiaaDoorMtRule
namespace Go.Proofs.YtodlecjbpmggiaaDoor
open Go.RowKit
set_option linter.unusedVariables false
set_option linter.unusedSimpArgs false

theorem take_add {rs : List Rl} {k : Nat} {r : Rl} (h : rs[k]? = some r) : rs.take (k + 1) = rs.take k ++ [r] := by
  obtain ⟨h1, h2⟩ := List.getElem?_eq_some_iff.1 h
  rw [List.take_succ_eq_append_getElem h1, h2]
set_option maxHeartbeats 4000000 in
set_option maxRecDepth 100000 in
theorem allowed_at (rs : List Rl) (a : Option Addr) (len cap : Nat) (path path' : ByteArray) (b : Bool) (hpn : nfB path = path') (hb : b = true ↔ allowP rs path') (w : World) (hlen : rs.length = len) (hr : RdR w a rs) (hl : len ≤ 1000) (hsz : ∀ r ∈ rs, r.pat.size ≤ 10000) (hps : path.size ≤ 10000) (hT : TabsM w) :
    Calls Tryd.prog 9 #[.slice a len cap, .string path] w fun e w' => e = .returned (.bool b) ∧ Below w.heap.size w w' := by
  have ss : path'.size ≤ 100000 := by have := nfB_size path; rw [hpn] at this; omega
  have HT := Lib.hid hT
  have HB := Lib.hid hb
  have HPN := Lib.hid hpn
  have HR := Lib.hid hr
  have HSZ := Lib.hid hsz
  have HLEN := Lib.hid hlen
  clear hT hb hpn hr hsz hlen
  go_enter Tryd.func9, Tryd.ntmps9
  go_wp2_with fail
  refine (normal_at path path' HPN.out hps _ HT.out.1).mono ?_
  rintro e w1 ⟨rfl, hb1⟩
  have B1 := Lib.hid hb1
  clear hb1
  go_wp2_with fail
  go_loopw [5, 6, 8, 9, 14] (fun L A _ _ i wr => ∃ (k : Nat) (Lv : Int) (Av : Bool), k ≤ len ∧ i = .int .i64 k ∧ L = .int .i64 Lv ∧ A = .bool Av ∧ -1 ≤ Lv ∧ Lv ≤ 100000 ∧ Hid (Below w.heap.size w wr) ∧ Hid (Alw (rs.take k) path' Lv Av)) (fun _ _ _ _ i _ => len - (intOf i).toNat)
  case atStart => exact ⟨0, -1, true, by omega, rfl, rfl, rfl, by omega, by omega, B1, Lib.hid (by rw [List.take_zero]; exact Alw.start path')⟩
  case round =>
    clear B1
    obtain ⟨k, Lv, Av, hk, rfl, rfl, rfl, hL1, hL2, BR, HA⟩ := hrel
    by_cases hlt : k < len
    · have hkd : decide ((k : Int) < (len : Int)) = true := by simp; omega
      obtain ⟨r, hrk⟩ : ∃ r, rs[k]? = some r := ⟨rs[k]'(by have := HLEN.out; omega), List.getElem?_eq_getElem _⟩
      obtain ⟨bb, off, ha, hc⟩ := HR.out
      have ha' := ha (by have := HLEN.out; omega)
      subst ha'
      obtain ⟨q0, q1⟩ := hc k r hrk
      have c0 := (BR.out.cell (World.block_lt_of_cell? _ _ q0)).trans q0
      have c1 := (BR.out.cell (World.block_lt_of_cell? _ _ q1)).trans q1
      have hrs : r.pat.size ≤ 10000 := HSZ.out r (List.mem_of_getElem? hrk)
      have HRK := Lib.hid (take_add hrk)
      have hbs := BR.out.size
      have TR := Lib.hid (HT.out.later BR.out)
      obtain ⟨pn, hpn⟩ : ∃ p, nfB r.pat = p := ⟨_, rfl⟩
      have hpns : pn.size ≤ 100000 := by have := nfB_size r.pat; rw [hpn] at this; omega
      have HN := Lib.hid hpn
      obtain ⟨wo, rfl⟩ : ∃ x, x = wr := ⟨_, rfl⟩
      have bx := Box.new wo #[.bool r.allow, .string r.pat] 27
      have BX := Lib.hid bx
      have TA := Lib.hid (TR.out.later ((Below.refl wo.heap.size wo).alloc (Nat.le_refl _) (.cells #[.bool r.allow, .string r.pat] 27)))
      have BA := Lib.hid (BR.out.alloc hbs (.cells #[.bool r.allow, .string r.pat] 27))
      clear ha hc q0 q1 hrk hpn bx
      go_wp2_with fail
      refine (normal_at r.pat pn HN.out hrs _ TA.out.1).mono ?_
      rintro e w2 ⟨rfl, hb2⟩
      have b2 := BX.out.later hb2
      have T2 := Lib.hid (TA.out.later hb2)
      have B2 := Lib.hid (BA.out.trans (hb2.mono BA.out.size))
      have d0 : w2.cell? ⟨wo.heap.size, 0, none⟩ = some (.bool r.allow) := by rw [b2.cell 0]; rfl
      have hw2 : wo.heap.size < w2.heap.size := b2.lt
      clear c0 c1 hb2 b2
      by_cases hsh : (pn.size : Int) < Lv
      · have hsd : decide ((pn.size : Int) < Lv) = true := by simpa using hsh
        have HA2 : Hid (Alw (rs.take (k + 1)) path' Lv Av) := Lib.hid (by rw [HRK.out]; exact HA.out.short (by unfold lng; rw [HN.out]; exact hsh))
        clear hsh
        go_wp2
        go_roundw
        case rel => exact ⟨k + 1, Lv, Av, by omega, by go_num, rfl, rfl, hL1, hL2, B2, HA2⟩
        case measure => (simp [intOf]); try omega
      · have hsd : decide ((pn.size : Int) < Lv) = false := by simpa using hsh
        obtain ⟨sb, hsb⟩ : ∃ sb, MM (dl pn) (dl path') = sb := ⟨_, rfl⟩
        have HSB := Lib.hid hsb
        have hge : Lv ≤ (pn.size : Int) := by omega
        clear hsb hsh
        go_wp2_with fail
        refine (matches_at pn path' sb HSB.out hpns ss _ T2.out).mono ?_
        rintro e w3 ⟨rfl, hb3⟩
        have B3 := Lib.hid (B2.out.trans (hb3.mono B2.out.size))
        have d3 := (hb3.cell (p := ⟨wo.heap.size, 0, none⟩) hw2).trans d0
        clear hb3 d0
        cases sb
        · have HA2 : Hid (Alw (rs.take (k + 1)) path' Lv Av) := Lib.hid (by rw [HRK.out]; exact HA.out.skip (by unfold spk; rw [HN.out]; exact HSB.out))
          go_wp2
          go_roundw
          case rel => exact ⟨k + 1, Lv, Av, by omega, by go_num, rfl, rfl, hL1, hL2, B3, HA2⟩
          case measure => (simp [intOf]); try omega
        · have HA2 : Hid (Alw (rs.take (k + 1)) path' (pn.size : Int) (r.allow || (Av && (pn.size : Int) == Lv))) := Lib.hid (by
            have := HA.out.take (r := r) (by unfold spk; rw [HN.out]; exact HSB.out) (by unfold lng; rw [HN.out]; exact hge)
            unfold lng at this
            rw [HN.out] at this
            rw [HRK.out]
            exact this)
          obtain ⟨eb, heb⟩ : ∃ eb, ((pn.size : Int) == Lv) = eb := ⟨_, rfl⟩
          obtain ⟨al, hal⟩ : ∃ al, r.allow = al := ⟨_, rfl⟩
          rw [hal] at HA2 d3
          rw [heb] at HA2
          have HEB := heb
          clear hal heb
          cases al <;> cases Av <;> cases eb
          all_goals
            go_wp2
            go_roundw
            case rel => exact ⟨k + 1, _, _, by omega, by go_num, rfl, rfl, by omega, by omega, B3, HA2⟩
            case measure => (simp [intOf]); try omega
    · have hkd : decide ((k : Int) < (len : Int)) = false := by simp; omega
      have HF : Hid (Av = b) := Lib.hid (by
        have h1 := HA.out.done
        rw [List.take_of_length_le (by have := HLEN.out; omega)] at h1
        exact Bool.eq_iff_iff.2 (h1.trans HB.out.symm))
      go_wp2
      go_ret
      rw [HF.out]
      exact ⟨rfl, BR.out⟩
end Go.Proofs.YtodlecjbpmggiaaDoor
