/- Part of a chain: FrDec, FrScan, FrEnc. -/
import Derived.Test.YtimkgaokcldgkaaGreatDoorFq16
import Derived.Test.YtimkgaokcldgkaaGreatDoorFq00
import Derived.Test.YtimkgaokcldgkaaGreatDoorFq07
import Derived.Test.YtimkgaokcldgkaaGreatDoorFq09
import Derived.Deep.Cut
import Derived.Deep.CutRange
import Derived.Deep.DeepCutAuto
/- Package frame: the first record of bytes. -/
namespace Go.Proofs.YtimkgaokcldgkaaGreatDoor
open Go.RowKit
set_option linter.unusedSimpArgs false
set_option maxRecDepth 100000

theorem number_as (l : List Int) (n : Nat) (v : Int) (a : Option Addr) (cap : Nat) (w : World) (hr : RdB w a l) (hn : l.length = n) (hb : Byts l) (hl : n ≤ 8) (hv : wrap64 (valI l) = v) :
    Calls Tryz.prog 76 #[.slice a n cap] w fun e w' => e = .returned (.int .i64 v) ∧ w = w' := by
  subst hn
  subst hv
  exact number_at l a cap w hr hb (by omega)
theorem sum_as (l : List Int) (n : Nat) (v : BitVec 32) (a : Option Addr) (cap : Nat) (w : World) (hr : RdB w a l) (hn : l.length = n) (hb : Byts l) (hl : n < 1000000) (hv : sumC l = v) :
    Calls Tryz.prog 44 #[.slice a n cap] w fun e w' => e = .returned (.int .u32 v.toNat) ∧ w = w' := by
  subst hn
  subst hv
  exact sum_at l a cap w hr hb hl

/-- What decoding comes to. -/
def DecP (l : List Int) (e : Ending) : Prop := ∃ (r : Rc) (n : Int) (b : Bool), e = .returned (.tuple #[.agg (recL r).toArray, .int .i64 n, .bool b]) ∧ ((b = true ∧ ∃ m : Nat, n = m ∧ decR l = some (r, m)) ∨ (b = false ∧ decR l = none))
def zeroR : Rc := ⟨0, 0, ByteArray.empty, ByteArray.empty, 0, 0⟩
theorem decP_none {l : List Int} (h : decR l = none) : DecP l (.returned (.tuple #[.agg #[.int .i64 0, .int .i64 0, .string ByteArray.empty, .string ByteArray.empty, .int .i64 0, .int .i64 0], .int .i64 0, .bool false])) :=
  ⟨zeroR, 0, false, rfl, Or.inr ⟨rfl, h⟩⟩

set_option maxHeartbeats 1000000 in
theorem decode_short (l : List Int) (a : Option Addr) (cap : Nat) (w : World) (h : l.length < 6) :
    Calls Tryz.prog 59 #[.slice a l.length cap] w fun e w' => DecP l e ∧ Below w.heap.size w w' := by
  have hd : decR l = none := by unfold decR; rw [if_pos h]
  have HD := Lib.hid hd
  clear hd
  go_enter Tryz.func59, Tryz.ntmps59
  go_wp2_with fail
  exact bodyPost_ret (v := .tuple #[.agg #[.int .i64 0, .int .i64 0, .string ByteArray.empty, .string ByteArray.empty, .int .i64 0, .int .i64 0], .int .i64 0, .bool false]) (by simp [results, Tryz.results59, go_sem]; rfl) rfl ⟨decP_none HD.out, (Below.refl _ _).alloc (Nat.le_refl _) _⟩

set_option maxHeartbeats 1000000 in
theorem decode_cut (l : List Int) (b off : Nat) (cap : Nat) (w : World) (hr : RdB w (some ⟨b, off, none⟩) l) (hb : Byts l) (hc : l.length ≤ cap) (hl : l.length < 1000000) (m : Nat) (hm : (valI (l.take 2)).toNat = m) (h6 : 6 ≤ l.length) (h : l.length < 6 + m ∨ 6 + m < 26) :
    Calls Tryz.prog 59 #[.slice (some ⟨b, off, none⟩) l.length cap] w fun e w' => DecP l e ∧ Below w.heap.size w w' := by
  have hd : decR l = none := by unfold decR; rw [if_neg (by omega), if_pos (by rw [hm]; exact h)]
  have HD := Lib.hid hd
  have hv := valI_lt (l.take 2) (hb.take 2)
  rw [show (l.take 2).length = 2 by simp; omega] at hv
  have HV : Hid (wrap64 (valI (l.take 2)) = m) := Lib.hid (by rw [wrap64_id hv.1 (by omega)]; omega)
  have hm2 : m < 65536 := by omega
  have HM := Lib.hid hm
  clear hd hm hv
  have h6' : decide ((l.length : Int) < 6) = false := decide_eq_false (by omega)
  have HR := Lib.hid hr
  have HB := Lib.hid hb
  have HL : Hid ((l.take 2).length = 2) := Lib.hid (by simp; omega)
  clear hr hb
  by_cases g : l.length < 6 + m
  · have g' : decide ((l.length : Int) < 6 + m) = true := decide_eq_true (by omega)
    clear h
    go_enter Tryz.func59, Tryz.ntmps59
    go_wp2_with (go_at_call 76; (with_reducible refine (number_as (l.take 2) 2 m _ _ _ ((HR.out.alloc _).take 2) HL.out (HB.out.take 2) (by decide) HV.out).mono ?_); rintro e w' ⟨rfl, rfl⟩)
    exact bodyPost_ret (v := .tuple #[.agg #[.int .i64 0, .int .i64 0, .string ByteArray.empty, .string ByteArray.empty, .int .i64 0, .int .i64 0], .int .i64 0, .bool false]) (by simp [results, Tryz.results59, go_sem]; rfl) rfl ⟨decP_none HD.out, (Below.refl _ _).alloc (Nat.le_refl _) _⟩
  · have g' : decide ((l.length : Int) < 6 + m) = false := decide_eq_false (by omega)
    have g2 : decide (6 + (m : Int) < 26) = true := decide_eq_true (by omega)
    clear h
    go_enter Tryz.func59, Tryz.ntmps59
    go_wp2_with (go_at_call 76; (with_reducible refine (number_as (l.take 2) 2 m _ _ _ ((HR.out.alloc _).take 2) HL.out (HB.out.take 2) (by decide) HV.out).mono ?_); rintro e w' ⟨rfl, rfl⟩)
    exact bodyPost_ret (v := .tuple #[.agg #[.int .i64 0, .int .i64 0, .string ByteArray.empty, .string ByteArray.empty, .int .i64 0, .int .i64 0], .int .i64 0, .bool false]) (by simp [results, Tryz.results59, go_sem]; rfl) rfl ⟨decP_none HD.out, (Below.refl _ _).alloc (Nat.le_refl _) _⟩

/-- What the later ways have in common. -/
structure Head (l : List Int) (b off cap : Nat) (w : World) (m : Nat) (C : List Int) : Prop where
  rd : RdB w (some ⟨b, off, none⟩) l
  by_ : Byts l
  cp : l.length ≤ cap
  len : l.length < 1000000
  hm : (valI (l.take 2)).toNat = m
  ge : 20 ≤ m
  le : 6 + m ≤ l.length
  hC : (l.drop 6).take m = C
theorem Head.m_lt {l : List Int} {b off cap : Nat} {w : World} {m : Nat} {C : List Int} (h : Head l b off cap w m C) : m < 65536 := by
  have hv := valI_lt (l.take 2) (h.by_.take 2)
  rw [show (l.take 2).length = 2 by have := h.le; have := h.ge; simp; omega] at hv
  have := h.hm
  omega
theorem Head.num {l : List Int} {b off cap : Nat} {w : World} {m : Nat} {C : List Int} (h : Head l b off cap w m C) : wrap64 (valI (l.take 2)) = m := by
  have hv := valI_lt (l.take 2) (h.by_.take 2)
  rw [show (l.take 2).length = 2 by have := h.le; have := h.ge; simp; omega] at hv
  have := h.hm
  rw [wrap64_id hv.1 (by omega)]
  omega
theorem Head.clen {l : List Int} {b off cap : Nat} {w : World} {m : Nat} {C : List Int} (h : Head l b off cap w m C) : C.length = m := by
  have := h.le
  rw [← h.hC]
  simp
  omega
theorem Head.cby {l : List Int} {b off cap : Nat} {w : World} {m : Nat} {C : List Int} (h : Head l b off cap w m C) : Byts C := h.hC ▸ (h.by_.drop 6).take m
theorem Head.crd {l : List Int} {b off cap : Nat} {w : World} {m : Nat} {C : List Int} (h : Head l b off cap w m C) : RdB w (some ⟨b, off + 6, none⟩) C := h.hC ▸ (h.rd.drop 6).take m
theorem Head.two {l : List Int} {b off cap : Nat} {w : World} {m : Nat} {C : List Int} (h : Head l b off cap w m C) : (l.take 2).length = 2 := by have := h.le; have := h.ge; simp; omega
theorem Head.four {l : List Int} {b off cap : Nat} {w : World} {m : Nat} {C : List Int} (h : Head l b off cap w m C) : ((l.drop 2).take 4).length = 4 := by have := h.le; have := h.ge; simp; omega
theorem wrap64_small {l : List Int} (h : Byts l) (hl : l.length ≤ 7) : wrap64 (valI l) = valI l := by
  have := valI_lt l h
  refine wrap64_id this.1 ?_
  rcases (by omega : l.length = 0 ∨ l.length = 1 ∨ l.length = 2 ∨ l.length = 3 ∨ l.length = 4 ∨ l.length = 5 ∨ l.length = 6 ∨ l.length = 7) with e | e | e | e | e | e | e | e <;> rw [e] at this <;> omega

set_option maxHeartbeats 1000000 in
theorem decode_sum (l : List Int) (b off : Nat) (cap : Nat) (w : World) (m : Nat) (C : List Int) (H : Head l b off cap w m C) (hs : valI ((l.drop 2).take 4) ≠ (sumC C).toNat) :
    Calls Tryz.prog 59 #[.slice (some ⟨b, off, none⟩) l.length cap] w fun e w' => DecP l e ∧ Below w.heap.size w w' := by
  have hd : decR l = none := by
    have h1 := H.le
    have h2 := H.ge
    unfold decR
    rw [if_neg (by omega), if_neg (by rw [H.hm]; omega), if_pos (by rw [H.hm, H.hC]; exact hs)]
  have HD := Lib.hid hd
  clear hd
  have hml := H.m_lt
  have hge := H.ge
  have hle := H.le
  have hcp := H.cp
  have hll := H.len
  have g1 : decide ((l.length : Int) < 6) = false := decide_eq_false (by omega)
  have g2 : decide ((l.length : Int) < 6 + m) = false := decide_eq_false (by omega)
  have g3 : decide (6 + (m : Int) < 26) = false := decide_eq_false (by omega)
  obtain ⟨s, hsc⟩ : ∃ s, sumC C = s := ⟨_, rfl⟩
  rw [hsc] at hs
  obtain ⟨v, hv⟩ : ∃ v, valI ((l.drop 2).take 4) = v := ⟨_, rfl⟩
  rw [hv] at hs
  have hv2 : wrap64 (valI ((l.drop 2).take 4)) = v := by rw [wrap64_small ((H.by_.drop 2).take 4) (by rw [H.four]; decide), hv]
  have g4 : (v != (s.toNat : Int)) = true := by simpa using hs
  have HS := Lib.hid hsc
  have HV := Lib.hid hv2
  clear hs hsc hv hv2
  go_enter Tryz.func59, Tryz.ntmps59
  go_wp2_with (first
    | (go_at_call 76; (with_reducible refine (number_as (l.take 2) 2 m _ _ _ ((H.rd.alloc _).take 2) H.two (H.by_.take 2) (by decide) H.num).mono ?_); rintro e w' ⟨rfl, rfl⟩)
    | (go_at_call 76; (with_reducible refine (number_as ((l.drop 2).take 4) 4 v _ _ _ ((H.rd.alloc _).drop 2 |>.take 4) H.four ((H.by_.drop 2).take 4) (by decide) HV.out).mono ?_); rintro e w' ⟨rfl, rfl⟩)
    | (go_at_call 44; (with_reducible refine (sum_as C m s _ _ _ (H.crd.alloc _) H.clen H.cby (by omega) HS.out).mono ?_); rintro e w' ⟨rfl, rfl⟩))
  exact bodyPost_ret (v := .tuple #[.agg #[.int .i64 0, .int .i64 0, .string ByteArray.empty, .string ByteArray.empty, .int .i64 0, .int .i64 0], .int .i64 0, .bool false]) (by simp [results, Tryz.results59, go_sem]; rfl) rfl ⟨decP_none HD.out, (Below.refl _ _).alloc (Nat.le_refl _) _⟩

set_option maxHeartbeats 2000000 in
theorem decode_host (l : List Int) (b off : Nat) (cap : Nat) (w : World) (m : Nat) (C : List Int) (H : Head l b off cap w m C) (hs : valI ((l.drop 2).take 4) = (sumC C).toNat) (h : Nat) (hh : (valI ((C.drop 18).take 2)).toNat = h) (hbad : m < 20 + h) :
    Calls Tryz.prog 59 #[.slice (some ⟨b, off, none⟩) l.length cap] w fun e w' => DecP l e ∧ Below w.heap.size w w' := by
  have hcl := H.clen
  have hge := H.ge
  have hle := H.le
  have hd : decR l = none := by
    unfold decR
    rw [if_neg (by omega), if_neg (by rw [H.hm]; omega), if_neg (by rw [H.hm, H.hC]; exact fun e => e hs)]
    simp only [H.hm, H.hC, hh]
    rw [if_pos (by simp; omega)]
  have HD := Lib.hid hd
  clear hd
  have hml := H.m_lt
  have hcp := H.cp
  have hll := H.len
  have g1 : decide ((l.length : Int) < 6) = false := decide_eq_false (by omega)
  have g2 : decide ((l.length : Int) < 6 + m) = false := decide_eq_false (by omega)
  have g3 : decide (6 + (m : Int) < 26) = false := decide_eq_false (by omega)
  obtain ⟨s, hsc⟩ : ∃ s, sumC C = s := ⟨_, rfl⟩
  rw [hsc] at hs
  have hv2 : wrap64 (valI ((l.drop 2).take 4)) = (s.toNat : Int) := by rw [wrap64_small ((H.by_.drop 2).take 4) (by rw [H.four]; decide), hs]
  have g4 : ((s.toNat : Int) != (s.toNat : Int)) = false := by simp
  have hl18 : ((C.drop 18).take 2).length = 2 := by simp; omega
  have hvh := valI_lt ((C.drop 18).take 2) ((H.cby.drop 18).take 2)
  rw [hl18] at hvh
  have hnh : wrap64 (valI ((C.drop 18).take 2)) = h := by rw [wrap64_id hvh.1 (by omega)]; omega
  have hh2 : h < 65536 := by omega
  obtain ⟨i0, hi0, hz0, hz1, hz2⟩ := info_parts info5
  obtain ⟨o20, hrun, ho1, ho2⟩ := slice_from (P := Tryz.prog) 55 5 Tryz.underlying55 hi0 hz1 b (off + 6) m (cap - 6) 20 (by omega) (by omega)
  have HS := Lib.hid hsc
  have HV := Lib.hid hv2
  have HN := Lib.hid hnh
  have HCL := Lib.hid hcl
  have g5 : decide (((m - 20 : Nat) : Int) < (h : Int)) = true := decide_eq_true (by omega)
  clear hs hsc hv2 hvh hh hnh hcl ho1 ho2 hi0 hz0 hz1 hz2
  go_enter Tryz.func59, Tryz.ntmps59
  go_wp2_with (first
    | (go_at_call 76; (with_reducible refine (number_as (l.take 2) 2 m _ _ _ ((H.rd.alloc _).take 2) H.two (H.by_.take 2) (by decide) H.num).mono ?_); rintro e w' ⟨rfl, rfl⟩)
    | (go_at_call 76; (with_reducible refine (number_as ((l.drop 2).take 4) 4 s.toNat _ _ _ ((H.rd.alloc _).drop 2 |>.take 4) H.four ((H.by_.drop 2).take 4) (by decide) HV.out).mono ?_); rintro e w' ⟨rfl, rfl⟩)
    | (go_at_call 76; (with_reducible refine (number_as ((C.drop 18).take 2) 2 h _ _ _ ((H.crd.alloc _).drop 18 |>.take 2) hl18 ((H.cby.drop 18).take 2) (by decide) HN.out).mono ?_); rintro e w' ⟨rfl, rfl⟩)
    | (go_at_call 44; (with_reducible refine (sum_as C m s _ _ _ (H.crd.alloc _) HCL.out H.cby (by omega) HS.out).mono ?_); rintro e w' ⟨rfl, rfl⟩))
  all_goals exact bodyPost_ret (v := .tuple #[.agg #[.int .i64 0, .int .i64 0, .string ByteArray.empty, .string ByteArray.empty, .int .i64 0, .int .i64 0], .int .i64 0, .bool false]) (by simp [results, Tryz.results59, go_sem]; rfl) rfl ⟨decP_none HD.out, (Below.refl _ _).alloc (Nat.le_refl _) _⟩

def zeroCs : Array Value := #[.int .i64 0, .int .i64 0, .string ByteArray.empty, .string ByteArray.empty, .int .i64 0, .int .i64 0]

set_option maxHeartbeats 2000000 in
theorem decode_end (l : List Int) (b off : Nat) (cap : Nat) (w : World) (m : Nat) (C : List Int) (H : Head l b off cap w m C) (hs : valI ((l.drop 2).take 4) = (sumC C).toNat) (h : Nat) (hh : (valI ((C.drop 18).take 2)).toNat = h) (hok : 20 + h ≤ m) :
    Calls Tryz.prog 59 #[.slice (some ⟨b, off, none⟩) l.length cap] w fun e w' => DecP l e ∧ Below w.heap.size w w' := by
  have hcl := H.clen
  have hge := H.ge
  have hle := H.le
  have hml := H.m_lt
  have hcp := H.cp
  have hll := H.len
  have g1 : decide ((l.length : Int) < 6) = false := decide_eq_false (by omega)
  have g2 : decide ((l.length : Int) < 6 + m) = false := decide_eq_false (by omega)
  have g3 : decide (6 + (m : Int) < 26) = false := decide_eq_false (by omega)
  obtain ⟨s, hsc⟩ : ∃ s, sumC C = s := ⟨_, rfl⟩
  rw [hsc] at hs
  have hv2 : wrap64 (valI ((l.drop 2).take 4)) = (s.toNat : Int) := by rw [wrap64_small ((H.by_.drop 2).take 4) (by rw [H.four]; decide), hs]
  have g4 : ((s.toNat : Int) != (s.toNat : Int)) = false := by simp
  have hl18 : ((C.drop 18).take 2).length = 2 := by simp; omega
  have hvh := valI_lt ((C.drop 18).take 2) ((H.cby.drop 18).take 2)
  rw [hl18] at hvh
  have hnh : wrap64 (valI ((C.drop 18).take 2)) = h := by rw [wrap64_id hvh.1 (by omega)]; omega
  have hh2 : h < 65536 := by omega
  have hlI : ((C.drop 2).take 8).length = 8 := by simp; omega
  have hlU : ((C.drop 10).take 8).length = 8 := by simp; omega
  obtain ⟨vI, hvI⟩ : ∃ v, wrap64 (valI ((C.drop 2).take 8)) = v := ⟨_, rfl⟩
  obtain ⟨vU, hvU⟩ : ∃ v, wrap64 (valI ((C.drop 10).take 8)) = v := ⟨_, rfl⟩
  obtain ⟨c0, hc0⟩ : ∃ c, C[0]? = some c := ⟨_, List.getElem?_eq_getElem (by omega)⟩
  obtain ⟨c1, hc1⟩ : ∃ c, C[1]? = some c := ⟨_, List.getElem?_eq_getElem (by omega)⟩
  obtain ⟨hst, hhst⟩ : ∃ x, strL ((C.drop 20).take h) = x := ⟨_, rfl⟩
  obtain ⟨pth, hpth⟩ : ∃ x, strL ((C.drop 20).drop h) = x := ⟨_, rfl⟩
  have b0 := H.cby c0 (List.mem_of_getElem? hc0)
  have b1 := H.cby c1 (List.mem_of_getElem? hc1)
  obtain ⟨r, hr⟩ : ∃ r : Rc, ⟨c0, vI, hst, pth, c1, vU⟩ = r := ⟨_, rfl⟩
  have hd : decR l = if soundR r then some (r, 6 + m) else none := by
    unfold decR
    rw [if_neg (by omega), if_neg (by rw [H.hm]; omega), if_neg (by rw [H.hm, H.hC, hsc]; exact fun e => e hs)]
    simp only [H.hm, H.hC, hh]
    rw [if_neg (by simp; omega), hvI, hvU, hhst, hpth, List.getD_eq_getElem?_getD, List.getD_eq_getElem?_getD, hc0, hc1]
    simp only [Option.getD_some, hr]
  have HS := Lib.hid hsc
  have HV := Lib.hid hv2
  have HN := Lib.hid hnh
  have HCL := Lib.hid hcl
  have HD := Lib.hid hd
  have HI := Lib.hid hvI
  have HU := Lib.hid hvU
  have HC0 := Lib.hid hc0
  have HC1 := Lib.hid hc1
  have HH := Lib.hid hhst
  have HP := Lib.hid hpth
  have HR := Lib.hid hr
  have g5 : decide (((m - 20 : Nat) : Int) < (h : Int)) = false := decide_eq_false (by omega)
  clear hs hsc hv2 hvh hh hnh hcl hd hvI hvU hc0 hc1 hhst hpth hr
  go_enter Tryz.func59, Tryz.ntmps59
  go_upto_region 0 with fail
  go_cut [2, 3, 4] (fun v2 v3 v4 wx => v2 = .pointer (some ⟨w.heap.size, 0, none⟩) ∧ v3 = .int .i64 0 ∧ v4 = .bool false ∧ Hid (Box wx w.heap.size zeroCs 79) ∧ Hid (Below w.heap.size w wx))
  case first =>
    go_wp2_with fail
    go_meet
    exact ⟨rfl, rfl, rfl, Lib.hid (Box.new _ _ _), Lib.hid ((Below.refl _ _).alloc (Nat.le_refl _) _)⟩
  case rest =>
  obtain ⟨rfl, rfl, rfl, HBX, HBL⟩ := hcut
  have hbl := HBL.out.size
  have hbx := HBX.out.lt
  have HRW := Lib.hid (H.rd.later HBL.out)
  have HCW := Lib.hid (H.crd.later HBL.out)
  obtain ⟨T, hT1, hT2⟩ : ∃ T, (cap - 6 = 20 → off + 6 = T) ∧ (¬ cap - 6 = 20 → off + 6 + 20 = T) := ⟨if cap - 6 = 20 then off + 6 else off + 6 + 20, fun h => (if_pos h).symm, fun h => (if_neg h).symm⟩
  have HCT : Hid (∀ w' : World, RdB w' (some ⟨b, off + 6, none⟩) C → RdB w' (some ⟨b, T, none⟩) (C.drop 20)) := Lib.hid (fun w' hr => by
    by_cases hq : cap - 6 = 20
    · exact Or.inl (List.drop_eq_nil_of_le (by rw [HCL.out]; omega))
    · rw [← hT2 hq]
      exact hr.drop 20)
  obtain ⟨i0, hi0, hz0, hz1, hz2⟩ := info_parts info5
  obtain ⟨U, hU, hU1, _⟩ := slice_from (P := Tryz.prog) 55 5 Tryz.underlying55 hi0 hz1 b T (m - 20) (cap - 6 - 20) h (by omega) (by omega)
  clear hi0 hz0 hz1 hz2
  have HX : Hid (∀ w' : World, RdB w' (some ⟨b, off + 6, none⟩) C → (convert 55 9 (.slice (some ⟨b, T, none⟩) h (cap - 6 - 20))).run Tryz.prog w' = .ok (.string hst) w') := Lib.hid (fun w' hr => by
    have := ((HCT.out _ hr).take h).text (P := Tryz.prog) 55 5 9 Tryz.underlying55 Tryz.underlying5 Tryz.underlying9 (fun _ => Or.inr ⟨_, _, rfl⟩) (cap - 6 - 20)
    rwa [HH.out, show ((C.drop 20).take h).length = h by rw [List.length_take, List.length_drop, HCL.out]; omega] at this)
  have HY : Hid (∀ w' : World, RdB w' (some ⟨b, off + 6, none⟩) C → (convert 55 9 (.slice (some ⟨b, U, none⟩) (m - 20 - h) (cap - 6 - 20 - h))).run Tryz.prog w' = .ok (.string pth) w') := Lib.hid (fun w' hr => by
    have := (RdB.rest (HCT.out _ hr) (cap := cap - 6 - 20) (by rw [List.length_drop, HCL.out]; omega) hU1).text (P := Tryz.prog) 55 5 9 Tryz.underlying55 Tryz.underlying5 Tryz.underlying9 (fun _ => Or.inr ⟨_, _, rfl⟩) (cap - 6 - 20 - h)
    rwa [HP.out, show ((C.drop 20).drop h).length = m - 20 - h by rw [List.length_drop, List.length_drop, HCL.out]] at this)
  clear hU1
  have HUU := Lib.hid hU
  clear hU
  go_upto_region 10 with (first
    | (go_at_call 76; (with_reducible refine (number_as (l.take 2) 2 m _ _ _ (HRW.out.take 2) H.two (H.by_.take 2) (by decide) H.num).mono ?_); rintro e w' ⟨rfl, rfl⟩)
    | (go_at_call 76; (with_reducible refine (number_as ((l.drop 2).take 4) 4 s.toNat _ _ _ (HRW.out.drop 2 |>.take 4) H.four ((H.by_.drop 2).take 4) (by decide) HV.out).mono ?_); rintro e w' ⟨rfl, rfl⟩)
    | (go_at_call 76; (with_reducible refine (number_as ((C.drop 18).take 2) 2 h _ _ _ (HCW.out.drop 18 |>.take 2) hl18 ((H.cby.drop 18).take 2) (by decide) HN.out).mono ?_); rintro e w' ⟨rfl, rfl⟩)
    | (go_at_call 44; (with_reducible refine (sum_as C m s _ _ _ HCW.out HCL.out H.cby (by omega) HS.out).mono ?_); rintro e w' ⟨rfl, rfl⟩))
  go_cut [5, 6, 7, 8] (fun v5 v6 v7 v8 wx => v5 = .int .i64 (6 + m) ∧ v6 = .slice (some ⟨b, off + 6, none⟩) m (cap - 6) ∧ v7 = .slice (some ⟨b, T, none⟩) (m - 20) (cap - 6 - 20) ∧ v8 = .int .i64 h ∧ wx = wc)
  case first =>
    by_cases hq : cap - 6 = 20
    · have hT := hT1 hq
      subst hT
      go_wp2_with (first
        | (go_at_call 76; (with_reducible refine (number_as (l.take 2) 2 m _ _ _ (HRW.out.take 2) H.two (H.by_.take 2) (by decide) H.num).mono ?_); rintro e w' ⟨rfl, rfl⟩)
        | (go_at_call 76; (with_reducible refine (number_as ((l.drop 2).take 4) 4 s.toNat _ _ _ (HRW.out.drop 2 |>.take 4) H.four ((H.by_.drop 2).take 4) (by decide) HV.out).mono ?_); rintro e w' ⟨rfl, rfl⟩)
        | (go_at_call 76; (with_reducible refine (number_as ((C.drop 18).take 2) 2 h _ _ _ (HCW.out.drop 18 |>.take 2) hl18 ((H.cby.drop 18).take 2) (by decide) HN.out).mono ?_); rintro e w' ⟨rfl, rfl⟩)
        | (go_at_call 44; (with_reducible refine (sum_as C m s _ _ _ HCW.out HCL.out H.cby (by omega) HS.out).mono ?_); rintro e w' ⟨rfl, rfl⟩))
      go_meet
      exact ⟨rfl, by first | rfl | simp [hq], by first | rfl | simp [hq], rfl, rfl⟩
    · have hT := hT2 hq
      subst hT
      go_wp2_with (first
        | (go_at_call 76; (with_reducible refine (number_as (l.take 2) 2 m _ _ _ (HRW.out.take 2) H.two (H.by_.take 2) (by decide) H.num).mono ?_); rintro e w' ⟨rfl, rfl⟩)
        | (go_at_call 76; (with_reducible refine (number_as ((l.drop 2).take 4) 4 s.toNat _ _ _ (HRW.out.drop 2 |>.take 4) H.four ((H.by_.drop 2).take 4) (by decide) HV.out).mono ?_); rintro e w' ⟨rfl, rfl⟩)
        | (go_at_call 76; (with_reducible refine (number_as ((C.drop 18).take 2) 2 h _ _ _ (HCW.out.drop 18 |>.take 2) hl18 ((H.cby.drop 18).take 2) (by decide) HN.out).mono ?_); rintro e w' ⟨rfl, rfl⟩)
        | (go_at_call 44; (with_reducible refine (sum_as C m s _ _ _ HCW.out HCL.out H.cby (by omega) HS.out).mono ?_); rintro e w' ⟨rfl, rfl⟩))
      go_meet
      exact ⟨rfl, rfl, rfl, rfl, rfl⟩
  case rest =>
  obtain ⟨rfl, rfl, rfl, rfl, rfl⟩ := hcut
  clear hT1 hT2
  go_wp2_with fail
  have q0 : 0 < m := by omega
  have q1 : 1 < m := by omega
  have q2 : 10 ≤ cap - 6 := by omega
  have q3 : 18 ≤ cap - 6 := by omega
  have q4 : h ≤ cap - 6 - 20 := by omega
  have q5 : h ≤ m - 20 := by omega
  have q6 : ¬ cap - 6 = 2 := by omega
  have q7 : ¬ cap - 6 = 10 := by omega
  have p1 : (1 : Int) < (m : Int) := by omega
  have p2 : (10 : Int) ≤ ((cap - 6 : Nat) : Int) := by omega
  have p3 : (18 : Int) ≤ ((cap - 6 : Nat) : Int) := by omega
  have p4 : (h : Int) ≤ ((cap - 6 - 20 : Nat) : Int) := by omega
  have p5 : (h : Int) ≤ ((m - 20 : Nat) : Int) := by omega
  have hw0 : IntKind.i64.wrap c0 = c0 := by rw [IntKind.wrap_i64]; omega
  have hw1 : IntKind.i64.wrap c1 = c1 := by rw [IntKind.wrap_i64]; omega
  go_cut [9] (fun v9 wx => ∃ g : Nat, v9 = .pointer (some ⟨g, 0, none⟩) ∧ w.heap.size < g ∧ Hid (Box wx g #[.int .i64 c0, .int .i64 vI, .string hst, .string pth, .int .i64 c1, .int .i64 vU] 79) ∧ Hid (Box wx w.heap.size zeroCs 79) ∧ Hid (Below w.heap.size w wx))
  case first =>
    refine wp_region_last 25 (fun w' => RdB w' (some ⟨b, off + 6, none⟩) C ∧ Box w' w.heap.size zeroCs 79 ∧ Below w.heap.size w w') (by kernel_rfl) (⟨HCW.out.drew, HBX.out.drew, HBL.out.drew⟩) (fun hHeld hClosed => ?_)
    refine wtk (i := 0) (v := ?_) rfl hClosed (Or.inl ⟨by rfl, ?_⟩) hHeld (fun hClosed => ?_)
    rotate_left
    · intro wv hSw; go_simp; all_goals (with_reducible rfl)
    (try simp only [List.getElem_toArray, List.getElem_cons_zero, put_at, List.set])
    refine wtk (i := 1) (v := ?_) rfl hClosed (Or.inl ⟨by rfl, ?_⟩) hHeld (fun hClosed => ?_)
    rotate_left
    · intro wv hSw; go_simp; all_goals (with_reducible rfl)
    (try simp only [List.getElem_toArray, List.getElem_cons_succ, List.getElem_cons_zero, put_at, List.set])
    refine wtk (i := 2) (v := ?_) rfl hClosed (Or.inl ⟨by rfl, ?_⟩) hHeld (fun hClosed => ?_)
    rotate_left
    · intro wv hSw; obtain ⟨hrd, _, _⟩ := hSw; have k0 := hrd.cells 0 c0 HC0.out; rw [Nat.add_zero] at k0; have k1 := hrd.cells 1 c1 HC1.out; have hX := HX.out _ hrd; have hY := HY.out _ hrd; go_simp; all_goals (with_reducible rfl)
    (try simp only [List.getElem_toArray, List.getElem_cons_succ, List.getElem_cons_zero, put_at, List.set])
    refine wtk (i := 3) (v := ?_) rfl hClosed (Or.inl ⟨by rfl, ?_⟩) hHeld (fun hClosed => ?_)
    rotate_left
    · intro wv hSw; obtain ⟨hrd, _, _⟩ := hSw; have k0 := hrd.cells 0 c0 HC0.out; rw [Nat.add_zero] at k0; have k1 := hrd.cells 1 c1 HC1.out; have hX := HX.out _ hrd; have hY := HY.out _ hrd; go_simp; all_goals (with_reducible rfl)
    (try simp only [List.getElem_toArray, List.getElem_cons_succ, List.getElem_cons_zero, put_at, List.set])
    refine wtk (i := 4) (v := ?_) rfl hClosed (Or.inl ⟨by rfl, ?_⟩) hHeld (fun hClosed => ?_)
    rotate_left
    · intro wv hSw; go_simp; all_goals (with_reducible rfl)
    (try simp only [List.getElem_toArray, List.getElem_cons_succ, List.getElem_cons_zero, put_at, List.set])
    refine wtk (i := 5) (v := ?_) rfl hClosed (Or.inl ⟨by rfl, ?_⟩) hHeld (fun hClosed => ?_)
    rotate_left
    · intro wv hSw; go_simp; all_goals (with_reducible rfl)
    (try simp only [List.getElem_toArray, List.getElem_cons_succ, List.getElem_cons_zero, put_at, List.set])
    refine wtk (i := 7) (v := ?_) rfl hClosed (Or.inl ⟨by rfl, ?_⟩) hHeld (fun hClosed => ?_)
    rotate_left
    · intro wv hSw; go_simp; all_goals (with_reducible rfl)
    (try simp only [List.getElem_toArray, List.getElem_cons_succ, List.getElem_cons_zero, put_at, List.set])
    refine wtk (i := 8) (v := ?_) rfl hClosed (Or.inl ⟨by rfl, ?_⟩) hHeld (fun hClosed => ?_)
    rotate_left
    · intro wv hSw; go_simp; all_goals (with_reducible rfl)
    (try simp only [List.getElem_toArray, List.getElem_cons_succ, List.getElem_cons_zero, put_at, List.set])
    refine wtk (i := 9) (v := ?_) rfl hClosed (Or.inl ⟨by rfl, ?_⟩) hHeld (fun hClosed => ?_)
    rotate_left
    · intro wv hSw; go_simp; all_goals (with_reducible rfl)
    (try simp only [List.getElem_toArray, List.getElem_cons_succ, List.getElem_cons_zero, put_at, List.set])
    refine wtk (i := 10) (v := ?_) rfl hClosed (Or.inl ⟨by rfl, ?_⟩) hHeld (fun hClosed => ?_)
    rotate_left
    · intro wv hSw; obtain ⟨hrd, _, _⟩ := hSw; have k0 := hrd.cells 0 c0 HC0.out; rw [Nat.add_zero] at k0; have k1 := hrd.cells 1 c1 HC1.out; have hX := HX.out _ hrd; have hY := HY.out _ hrd; go_simp; all_goals (with_reducible rfl)
    (try simp only [List.getElem_toArray, List.getElem_cons_succ, List.getElem_cons_zero, put_at, List.set])
    refine wtk (i := 11) (v := ?_) rfl hClosed (Or.inl ⟨by rfl, ?_⟩) hHeld (fun hClosed => ?_)
    rotate_left
    · intro wv hSw; go_simp; all_goals (with_reducible rfl)
    (try simp only [List.getElem_toArray, List.getElem_cons_succ, List.getElem_cons_zero, put_at, List.set])
    refine wtk (i := 12) (v := ?_) rfl hClosed (Or.inl ⟨by rfl, ?_⟩) hHeld (fun hClosed => ?_)
    rotate_left
    · intro wv hSw; go_simp; all_goals (with_reducible rfl)
    (try simp only [List.getElem_toArray, List.getElem_cons_succ, List.getElem_cons_zero, put_at, List.set])
    refine wtk (i := 13) (v := .slice (some ⟨b, U, none⟩) (m - 20 - h) (cap - 6 - 20 - h)) rfl hClosed (Or.inl ⟨by rfl, ?_⟩) hHeld (fun hClosed => ?_)
    · intro wv hSw; exact exec_slice_from (by rfl) (by rfl) (by rfl) HUU.out
    (try simp only [List.getElem_toArray, List.getElem_cons_succ, List.getElem_cons_zero, put_at, List.set])
    refine wtk (i := 14) (v := ?_) rfl hClosed (Or.inl ⟨by rfl, ?_⟩) hHeld (fun hClosed => ?_)
    rotate_left
    · intro wv hSw; obtain ⟨hrd, _, _⟩ := hSw; have k0 := hrd.cells 0 c0 HC0.out; rw [Nat.add_zero] at k0; have k1 := hrd.cells 1 c1 HC1.out; have hX := HX.out _ hrd; have hY := HY.out _ hrd; go_simp; all_goals (with_reducible rfl)
    (try simp only [List.getElem_toArray, List.getElem_cons_succ, List.getElem_cons_zero, put_at, List.set])
    refine wtk (i := 15) (v := ?_) rfl hClosed (Or.inl ⟨by rfl, ?_⟩) hHeld (fun hClosed => ?_)
    rotate_left
    · intro wv hSw; go_simp; all_goals (with_reducible rfl)
    (try simp only [List.getElem_toArray, List.getElem_cons_succ, List.getElem_cons_zero, put_at, List.set])
    refine wtk (i := 16) (v := ?_) rfl hClosed (Or.inl ⟨by rfl, ?_⟩) hHeld (fun hClosed => ?_)
    rotate_left
    · intro wv hSw; go_simp; all_goals (with_reducible rfl)
    (try simp only [List.getElem_toArray, List.getElem_cons_succ, List.getElem_cons_zero, put_at, List.set])
    refine wtk (i := 17) (v := ?_) rfl hClosed (Or.inl ⟨by rfl, ?_⟩) hHeld (fun hClosed => ?_)
    rotate_left
    · intro wv hSw; obtain ⟨hrd, _, _⟩ := hSw; have k0 := hrd.cells 0 c0 HC0.out; rw [Nat.add_zero] at k0; have k1 := hrd.cells 1 c1 HC1.out; have hX := HX.out _ hrd; have hY := HY.out _ hrd; go_simp; all_goals (with_reducible rfl)
    (try simp only [List.getElem_toArray, List.getElem_cons_succ, List.getElem_cons_zero, put_at, List.set])
    refine wtk (i := 18) (v := ?_) rfl hClosed (Or.inl ⟨by rfl, ?_⟩) hHeld (fun hClosed => ?_)
    rotate_left
    · intro wv hSw; obtain ⟨hrd, _, _⟩ := hSw; have k0 := hrd.cells 0 c0 HC0.out; rw [Nat.add_zero] at k0; have k1 := hrd.cells 1 c1 HC1.out; have hX := HX.out _ hrd; have hY := HY.out _ hrd; go_simp; all_goals (with_reducible rfl)
    (try simp only [List.getElem_toArray, List.getElem_cons_succ, List.getElem_cons_zero, put_at, List.set])
    refine wtk (i := 19) (v := ?_) rfl hClosed (Or.inl ⟨by rfl, ?_⟩) hHeld (fun hClosed => ?_)
    rotate_left
    · intro wv hSw; go_simp; all_goals (with_reducible rfl)
    (try simp only [List.getElem_toArray, List.getElem_cons_succ, List.getElem_cons_zero, put_at, List.set])
    refine wtk (i := 20) (v := ?_) rfl hClosed (Or.inl ⟨by rfl, ?_⟩) hHeld (fun hClosed => ?_)
    rotate_left
    · intro wv hSw; go_simp; all_goals (with_reducible rfl)
    (try simp only [List.getElem_toArray, List.getElem_cons_succ, List.getElem_cons_zero, put_at, List.set])
    refine wpAnyL_two (i := 6) (j := 24) rfl rfl (by kernel_rfl) (by kernel_rfl) (by kernel_rfl) hClosed (fun KK hK => ?_) (fun KK hK => ?_)
    · go_simp
      with_reducible refine (number_as ((C.drop 2).take 8) 8 vI _ _ _ (hHeld.1.drop 2 |>.take 8) hlI ((H.cby.drop 2).take 8) (by decide) HI.out).mono ?_
      rintro e w' ⟨rfl, rfl⟩
      go_wp2_with fail
      refine hK.out _ _ ?_ (fun hClosed hHeld => ?_)
      · exact hHeld
      clear hK KK
      (first | simp only [List.getElem_toArray, List.getElem_cons_succ, List.getElem_cons_zero, put_at, List.set] | (try simp only [put_at, List.set]))
      refine wpAnyL_two (i := 21) (j := 24) rfl rfl (by kernel_rfl) (by kernel_rfl) (by kernel_rfl) hClosed (fun KK hK => ?_) (fun KK hK => ?_)
      · go_simp
        with_reducible refine (number_as ((C.drop 10).take 8) 8 vU _ _ _ (hHeld.1.drop 10 |>.take 8) hlU ((H.cby.drop 10).take 8) (by decide) HU.out).mono ?_
        rintro e w' ⟨rfl, rfl⟩
        go_wp2_with fail
        refine hK.out _ _ ?_ (fun hClosed hHeld => ?_)
        · exact hHeld
        clear hK KK
        (first | simp only [List.getElem_toArray, List.getElem_cons_succ, List.getElem_cons_zero, put_at, List.set] | (try simp only [put_at, List.set]))
        refine wtk (i := 22) (v := ?_) rfl hClosed (Or.inl ⟨by rfl, ?_⟩) hHeld (fun hClosed => ?_)
        rotate_left
        · intro wv hSw; go_simp; all_goals (with_reducible rfl)
        (try simp only [List.getElem_toArray, List.getElem_cons_succ, List.getElem_cons_zero, put_at, List.set])
        refine wtk (i := 23) (v := ?_) rfl hClosed (Or.inl ⟨by rfl, ?_⟩) hHeld (fun hClosed => ?_)
        rotate_left
        · intro wv hSw; go_simp; all_goals (with_reducible rfl)
        (try simp only [List.getElem_toArray, List.getElem_cons_succ, List.getElem_cons_zero, put_at, List.set])
        refine wpAnyL_one (i := 24) rfl (by kernel_rfl) (by kernel_rfl) hClosed (fun KK hK => ?_)
        have hsz := hHeld.2.1.lt
        have hbz := hHeld.2.2.size
        go_simp
        refine hK.out _ _ ?_ (fun hClosed hHeld => ?_)
        · exact ⟨hHeld.1.alloc _, hHeld.2.1.alloc _, hHeld.2.2.alloc hHeld.2.2.size _⟩
        clear hK KK
        (first | simp only [List.getElem_toArray, List.getElem_cons_succ, List.getElem_cons_zero, put_at, List.set] | (try simp only [put_at, List.set]))
        refine wpAnyL_last rfl (by kernel_rfl) (by kernel_rfl) (fun KK hK => ?_)
        go_simp
        refine hK.out _ _ ?_
        (try simp only [put_at, List.set])
        go_wp2_with fail
        go_meet
        exact ⟨wc.heap.size, rfl, hbx, Lib.hid (Box.new wc _ _).drew, Lib.hid (HBX.out.alloc _).drew, Lib.hid (HBL.out.alloc hbl _).drew⟩
      · have hsz := hHeld.2.1.lt
        have hbz := hHeld.2.2.size
        go_simp
        refine hK.out _ _ ?_ (fun hClosed hHeld => ?_)
        · exact ⟨hHeld.1.alloc _, hHeld.2.1.alloc _, hHeld.2.2.alloc hHeld.2.2.size _⟩
        clear hK KK
        (first | simp only [List.getElem_toArray, List.getElem_cons_succ, List.getElem_cons_zero, put_at, List.set] | (try simp only [put_at, List.set]))
        refine wpAnyL_one (i := 21) rfl (by kernel_rfl) (by kernel_rfl) hClosed (fun KK hK => ?_)
        go_simp
        with_reducible refine (number_as ((C.drop 10).take 8) 8 vU _ _ _ (hHeld.1.drop 10 |>.take 8) hlU ((H.cby.drop 10).take 8) (by decide) HU.out).mono ?_
        rintro e w' ⟨rfl, rfl⟩
        go_wp2_with fail
        refine hK.out _ _ ?_ (fun hClosed hHeld => ?_)
        · exact hHeld
        clear hK KK
        (first | simp only [List.getElem_toArray, List.getElem_cons_succ, List.getElem_cons_zero, put_at, List.set] | (try simp only [put_at, List.set]))
        refine wtk (i := 22) (v := ?_) rfl hClosed (Or.inl ⟨by rfl, ?_⟩) hHeld (fun hClosed => ?_)
        rotate_left
        · intro wv hSw; go_simp; all_goals (with_reducible rfl)
        (try simp only [List.getElem_toArray, List.getElem_cons_succ, List.getElem_cons_zero, put_at, List.set])
        refine wtk (i := 23) (v := ?_) rfl hClosed (Or.inl ⟨by rfl, ?_⟩) hHeld (fun hClosed => ?_)
        rotate_left
        · intro wv hSw; go_simp; all_goals (with_reducible rfl)
        (try simp only [List.getElem_toArray, List.getElem_cons_succ, List.getElem_cons_zero, put_at, List.set])
        refine wpAnyL_last rfl (by kernel_rfl) (by kernel_rfl) (fun KK hK => ?_)
        go_simp
        refine hK.out _ _ ?_
        (try simp only [put_at, List.set])
        go_wp2_with fail
        go_meet
        exact ⟨wc.heap.size, rfl, hbx, Lib.hid (Box.new wc _ _).drew, Lib.hid (HBX.out.alloc _).drew, Lib.hid (HBL.out.alloc hbl _).drew⟩
    · have hsz := hHeld.2.1.lt
      have hbz := hHeld.2.2.size
      go_simp
      refine hK.out _ _ ?_ (fun hClosed hHeld => ?_)
      · exact ⟨hHeld.1.alloc _, hHeld.2.1.alloc _, hHeld.2.2.alloc hHeld.2.2.size _⟩
      clear hK KK
      (first | simp only [List.getElem_toArray, List.getElem_cons_succ, List.getElem_cons_zero, put_at, List.set] | (try simp only [put_at, List.set]))
      refine wpAnyL_one (i := 6) rfl (by kernel_rfl) (by kernel_rfl) hClosed (fun KK hK => ?_)
      go_simp
      with_reducible refine (number_as ((C.drop 2).take 8) 8 vI _ _ _ (hHeld.1.drop 2 |>.take 8) hlI ((H.cby.drop 2).take 8) (by decide) HI.out).mono ?_
      rintro e w' ⟨rfl, rfl⟩
      go_wp2_with fail
      refine hK.out _ _ ?_ (fun hClosed hHeld => ?_)
      · exact hHeld
      clear hK KK
      (first | simp only [List.getElem_toArray, List.getElem_cons_succ, List.getElem_cons_zero, put_at, List.set] | (try simp only [put_at, List.set]))
      refine wpAnyL_one (i := 21) rfl (by kernel_rfl) (by kernel_rfl) hClosed (fun KK hK => ?_)
      go_simp
      with_reducible refine (number_as ((C.drop 10).take 8) 8 vU _ _ _ (hHeld.1.drop 10 |>.take 8) hlU ((H.cby.drop 10).take 8) (by decide) HU.out).mono ?_
      rintro e w' ⟨rfl, rfl⟩
      go_wp2_with fail
      refine hK.out _ _ ?_ (fun hClosed hHeld => ?_)
      · exact hHeld
      clear hK KK
      (first | simp only [List.getElem_toArray, List.getElem_cons_succ, List.getElem_cons_zero, put_at, List.set] | (try simp only [put_at, List.set]))
      refine wtk (i := 22) (v := ?_) rfl hClosed (Or.inl ⟨by rfl, ?_⟩) hHeld (fun hClosed => ?_)
      rotate_left
      · intro wv hSw; go_simp; all_goals (with_reducible rfl)
      (try simp only [List.getElem_toArray, List.getElem_cons_succ, List.getElem_cons_zero, put_at, List.set])
      refine wtk (i := 23) (v := ?_) rfl hClosed (Or.inl ⟨by rfl, ?_⟩) hHeld (fun hClosed => ?_)
      rotate_left
      · intro wv hSw; go_simp; all_goals (with_reducible rfl)
      (try simp only [List.getElem_toArray, List.getElem_cons_succ, List.getElem_cons_zero, put_at, List.set])
      refine wpAnyL_last rfl (by kernel_rfl) (by kernel_rfl) (fun KK hK => ?_)
      go_simp
      refine hK.out _ _ ?_
      (try simp only [put_at, List.set])
      go_wp2_with fail
      go_meet
      exact ⟨wc.heap.size, rfl, hbx, Lib.hid (Box.new wc _ _).drew, Lib.hid (HBX.out.alloc _).drew, Lib.hid (HBL.out.alloc hbl _).drew⟩
  case rest =>
    clear HBX HBL HRW HCW hbl hbx hw0 hw1
    obtain ⟨g, rfl, hg, HBG, HBX, HBL⟩ := hcut
    have e := HR.out
    subst e
    clear HR
    have lz := HBX.out.lt
    by_cases hsd : soundR ⟨c0, vI, hst, pth, c1, vU⟩
    · go_wp2_with fail
      refine wp_region_last 6 (fun w' => Box w' g #[.int .i64 c0, .int .i64 vI, .string hst, .string pth, .int .i64 c1, .int .i64 vU] 79 ∧ (∃ cs : Array Value, cs.size = 6 ∧ Box w' w.heap.size cs 79) ∧ Below w.heap.size w w') (by kernel_rfl) (⟨HBG.out.drew, ⟨_, rfl, HBX.out.drew⟩, HBL.out.drew⟩) (fun hHeld hClosed => ?_)
      refine wtk (i := 0) (v := .agg #[.int .i64 c0, .int .i64 vI, .string hst, .string pth, .int .i64 c1, .int .i64 vU]) rfl hClosed (Or.inl ⟨by rfl, ?_⟩) hHeld (fun hClosed => ?_)
      · intro wv hSw; exact exec_load_box (by rfl) (by rfl) hSw.1 Tryz.underlying79 rfl (by kernel_rfl)
      (try simp only [List.getElem_toArray, List.getElem_cons_zero, put_at, List.set])
      refine wtk (i := 1) (v := ?_) rfl hClosed (Or.inl ⟨by rfl, ?_⟩) hHeld (fun hClosed => ?_)
      rotate_left
      · intro wv hSw; go_simp; all_goals (with_reducible rfl)
      (try simp only [List.getElem_toArray, List.getElem_cons_succ, List.getElem_cons_zero, put_at, List.set])
      refine wtk (i := 2) (v := .agg #[.int .i64 c0, .int .i64 vI, .string hst, .string pth, .int .i64 c1, .int .i64 vU]) rfl hClosed (Or.inl ⟨by rfl, ?_⟩) hHeld (fun hClosed => ?_)
      · intro wv hSw; exact exec_load_box (by rfl) (by rfl) hSw.1 Tryz.underlying79 rfl (by kernel_rfl)
      (try simp only [List.getElem_toArray, List.getElem_cons_succ, List.getElem_cons_zero, put_at, List.set])
      refine wpAnyL_one (i := 3) rfl (by kernel_rfl) (by kernel_rfl) hClosed (fun KK hK => ?_)
      go_simp
      refine (sound_yes ⟨c0, vI, hst, pth, c1, vU⟩ _ hsd).mono ?_
      rintro e w2 ⟨rfl, hb2⟩
      go_wp2_with fail
      refine hK.out _ _ ?_ (fun hClosed hHeld => ?_)
      · exact ⟨hHeld.1.later hb2, ⟨_, hHeld.2.1.choose_spec.1, hHeld.2.1.choose_spec.2.later hb2⟩, hHeld.2.2.trans (hb2.mono hHeld.2.2.size)⟩
      clear hK KK
      (first | simp only [List.getElem_toArray, List.getElem_cons_succ, List.getElem_cons_zero, put_at, List.set] | (try simp only [put_at, List.set]))
      refine wpAnyL_one (i := 4) rfl (by kernel_rfl) (by kernel_rfl) hClosed (fun KK hK => ?_)
      obtain ⟨cs, hcs, hbz⟩ := hHeld.2.1
      refine step_store_row rfl (ty := 79) rfl (cells := #[.int .i64 c0, .int .i64 vI, .string hst, .string pth, .int .i64 c1, .int .i64 vU]) rfl rfl hbz (by rw [hcs]; rfl) (by kernel_rfl) (by simp [Value.oneCell']) ?_
      refine hK.out _ _ ?_ (fun hClosed hHeld => ?_)
      · exact ⟨hHeld.1.otherRow (by omega) _, ⟨_, rfl, hbz.setRow #[.int .i64 c0, .int .i64 vI, .string hst, .string pth, .int .i64 c1, .int .i64 vU]⟩, below_row hHeld.2.2 (Nat.le_refl _) _⟩
      clear hK KK
      (first | simp only [List.getElem_toArray, List.getElem_cons_succ, List.getElem_cons_zero, put_at, List.set] | (try simp only [put_at, List.set]))
      have hfin := hbz.setRow #[.int .i64 c0, .int .i64 vI, .string hst, .string pth, .int .i64 c1, .int .i64 vU]
      clear hbz hcs
      refine wtk (i := 5) (v := ?_) rfl hClosed (Or.inl ⟨by rfl, ?_⟩) hHeld (fun hClosed => ?_)
      rotate_left
      · intro wv hSw; go_simp; all_goals (with_reducible rfl)
      (try simp only [List.getElem_toArray, List.getElem_cons_succ, List.getElem_cons_zero, put_at, List.set])
      refine wpAnyL_last rfl (by kernel_rfl) (by kernel_rfl) (fun KK hK => ?_)
      go_simp
      refine hK.out _ _ ?_
      (try simp only [put_at, List.set])
      have cz := hfin.cell
      go_wp2_with fail
      exact bodyPost_ret (v := .tuple #[.agg #[.int .i64 c0, .int .i64 vI, .string hst, .string pth, .int .i64 c1, .int .i64 vU], .int .i64 (6 + m), .bool true]) (by simp [results, Tryz.results59, go_sem, cz]) rfl ⟨⟨⟨c0, vI, hst, pth, c1, vU⟩, 6 + m, true, rfl, Or.inl ⟨rfl, 6 + m, by simp, by rw [HD.out, if_pos hsd]⟩⟩, hHeld.2.2⟩
    · go_wp2_with fail
      refine wp_region_last 6 (fun w' => Box w' g #[.int .i64 c0, .int .i64 vI, .string hst, .string pth, .int .i64 c1, .int .i64 vU] 79 ∧ (∃ cs : Array Value, cs.size = 6 ∧ Box w' w.heap.size cs 79) ∧ Below w.heap.size w w') (by kernel_rfl) (⟨HBG.out.drew, ⟨_, rfl, HBX.out.drew⟩, HBL.out.drew⟩) (fun hHeld hClosed => ?_)
      refine wtk (i := 0) (v := .agg #[.int .i64 c0, .int .i64 vI, .string hst, .string pth, .int .i64 c1, .int .i64 vU]) rfl hClosed (Or.inl ⟨by rfl, ?_⟩) hHeld (fun hClosed => ?_)
      · intro wv hSw; exact exec_load_box (by rfl) (by rfl) hSw.1 Tryz.underlying79 rfl (by kernel_rfl)
      (try simp only [List.getElem_toArray, List.getElem_cons_zero, put_at, List.set])
      refine wtk (i := 1) (v := ?_) rfl hClosed (Or.inl ⟨by rfl, ?_⟩) hHeld (fun hClosed => ?_)
      rotate_left
      · intro wv hSw; go_simp; all_goals (with_reducible rfl)
      (try simp only [List.getElem_toArray, List.getElem_cons_succ, List.getElem_cons_zero, put_at, List.set])
      refine wtk (i := 2) (v := .agg #[.int .i64 c0, .int .i64 vI, .string hst, .string pth, .int .i64 c1, .int .i64 vU]) rfl hClosed (Or.inl ⟨by rfl, ?_⟩) hHeld (fun hClosed => ?_)
      · intro wv hSw; exact exec_load_box (by rfl) (by rfl) hSw.1 Tryz.underlying79 rfl (by kernel_rfl)
      (try simp only [List.getElem_toArray, List.getElem_cons_succ, List.getElem_cons_zero, put_at, List.set])
      refine wpAnyL_one (i := 3) rfl (by kernel_rfl) (by kernel_rfl) hClosed (fun KK hK => ?_)
      go_simp
      refine (sound_no ⟨c0, vI, hst, pth, c1, vU⟩ _ hsd).mono ?_
      rintro e w2 ⟨rfl, hb2⟩
      go_wp2_with fail
      refine hK.out _ _ ?_ (fun hClosed hHeld => ?_)
      · exact ⟨hHeld.1.later hb2, ⟨_, hHeld.2.1.choose_spec.1, hHeld.2.1.choose_spec.2.later hb2⟩, hHeld.2.2.trans (hb2.mono hHeld.2.2.size)⟩
      clear hK KK
      (first | simp only [List.getElem_toArray, List.getElem_cons_succ, List.getElem_cons_zero, put_at, List.set] | (try simp only [put_at, List.set]))
      refine wpAnyL_one (i := 4) rfl (by kernel_rfl) (by kernel_rfl) hClosed (fun KK hK => ?_)
      obtain ⟨cs, hcs, hbz⟩ := hHeld.2.1
      refine step_store_row rfl (ty := 79) rfl (cells := #[.int .i64 c0, .int .i64 vI, .string hst, .string pth, .int .i64 c1, .int .i64 vU]) rfl rfl hbz (by rw [hcs]; rfl) (by kernel_rfl) (by simp [Value.oneCell']) ?_
      refine hK.out _ _ ?_ (fun hClosed hHeld => ?_)
      · exact ⟨hHeld.1.otherRow (by omega) _, ⟨_, rfl, hbz.setRow #[.int .i64 c0, .int .i64 vI, .string hst, .string pth, .int .i64 c1, .int .i64 vU]⟩, below_row hHeld.2.2 (Nat.le_refl _) _⟩
      clear hK KK
      (first | simp only [List.getElem_toArray, List.getElem_cons_succ, List.getElem_cons_zero, put_at, List.set] | (try simp only [put_at, List.set]))
      have hfin := hbz.setRow #[.int .i64 c0, .int .i64 vI, .string hst, .string pth, .int .i64 c1, .int .i64 vU]
      clear hbz hcs
      refine wtk (i := 5) (v := ?_) rfl hClosed (Or.inl ⟨by rfl, ?_⟩) hHeld (fun hClosed => ?_)
      rotate_left
      · intro wv hSw; go_simp; all_goals (with_reducible rfl)
      (try simp only [List.getElem_toArray, List.getElem_cons_succ, List.getElem_cons_zero, put_at, List.set])
      refine wpAnyL_last rfl (by kernel_rfl) (by kernel_rfl) (fun KK hK => ?_)
      go_simp
      refine hK.out _ _ ?_
      (try simp only [put_at, List.set])
      have cz := hfin.cell
      go_wp2_with fail
      exact bodyPost_ret (v := .tuple #[.agg #[.int .i64 c0, .int .i64 vI, .string hst, .string pth, .int .i64 c1, .int .i64 vU], .int .i64 (6 + m), .bool false]) (by simp [results, Tryz.results59, go_sem, cz]) rfl ⟨⟨⟨c0, vI, hst, pth, c1, vU⟩, 6 + m, false, rfl, Or.inr ⟨rfl, by rw [HD.out, if_neg hsd]⟩⟩, hHeld.2.2⟩
end Go.Proofs.YtimkgaokcldgkaaGreatDoor
/- Package frame: all records that bytes begin with. -/
namespace Go.Proofs.YtimkgaokcldgkaaGreatDoor
open Go.RowKit
set_option maxRecDepth 100000

theorem decode_at (l : List Int) (n : Nat) (a : Option Addr) (cap : Nat) (w : World) (hn : l.length = n) (hr : RdB w a l) (hb : Byts l) (hc : n ≤ cap) (hl : n < 1000000) :
    Calls Tryz.prog 59 #[.slice a n cap] w fun e w' => DecP l e ∧ Below w.heap.size w w' := by
  subst hn
  by_cases h6 : l.length < 6
  · exact decode_short l a cap w h6
  · obtain ⟨b, off, rfl⟩ := hr.plain (by omega)
    obtain ⟨m, hm⟩ : ∃ m, (valI (l.take 2)).toNat = m := ⟨_, rfl⟩
    by_cases h : l.length < 6 + m ∨ 6 + m < 26
    · exact decode_cut l b off cap w hr hb hc hl m hm (by omega) h
    · have H : Head l b off cap w m ((l.drop 6).take m) := ⟨hr, hb, hc, hl, hm, by omega, by omega, rfl⟩
      by_cases hs : valI ((l.drop 2).take 4) = (sumC ((l.drop 6).take m)).toNat
      · obtain ⟨k, hk⟩ : ∃ k, (valI ((((l.drop 6).take m).drop 18).take 2)).toNat = k := ⟨_, rfl⟩
        by_cases hbad : m < 20 + k
        · exact decode_host l b off cap w m _ H hs k hk hbad
        · exact decode_end l b off cap w m _ H hs k hk (by omega)
      · exact decode_sum l b off cap w m _ H hs

/-- Records in a row. -/
def flatC (rs : List Rc) : List Value := rs.flatMap recL
def RdR (w : World) (a : Option Addr) (rs : List Rc) : Prop := rs = [] ∨ ∃ b off, a = some ⟨b, off, none⟩ ∧ ∀ i r, rs[i]? = some r → ∀ j v, (recL r)[j]? = some v → w.cell? ⟨b, off + i * 6 + j, none⟩ = some v
def OwnR (w : World) (B : Nat) (a : Option Addr) (cap : Nat) (rs : List Rc) : Prop := w.ownsRow B 79 6 (.slice a rs.length cap) rs.length (flatC rs)
theorem infoR : (Tryz.prog.info? 79).map (fun i => (i.zero, i.size, i.bytes)) = some (some (.agg #[.int .i64 0, .int .i64 0, .string ByteArray.empty, .string ByteArray.empty, .int .i64 0, .int .i64 0]), 6, 64) := by kernel_rfl
theorem recL_one (r : Rc) : ∀ v ∈ recL r, v.oneCell' = true := by
  intro v hv
  simp only [recL, reqL, List.mem_cons, List.not_mem_nil, or_false] at hv
  rcases hv with rfl | rfl | rfl | rfl | rfl | rfl <;> rfl
theorem flatC_append (a b : List Rc) : flatC (a ++ b) = flatC a ++ flatC b := by simp [flatC]
theorem flatC_at {j : Nat} (hj : j < 6) : ∀ {rs : List Rc} {i : Nat} {r : Rc}, rs[i]? = some r → (flatC rs)[i * 6 + j]? = (recL r)[j]?
  | [], i, r, h => by simp at h
  | x :: rs, 0, r, h => by
    simp at h
    subst h
    rw [flatC, List.flatMap_cons, List.getElem?_append_left (by simp [recL, reqL]; omega)]
    simp
  | x :: rs, i + 1, r, h => by
    have := flatC_at hj (rs := rs) (i := i) (r := r) (by simpa using h)
    rw [flatC, List.flatMap_cons, List.getElem?_append_right (by simp [recL, reqL]; omega), ← this]
    congr 1
    simp [recL, reqL]
    omega
theorem OwnR.rd {w : World} {B : Nat} {a : Option Addr} {cap : Nat} {rs : List Rc} (h : OwnR w B a cap rs) : RdR w a rs := by
  have hl := h.1
  rcases h.2 with ⟨e, h0⟩ | ⟨g, c, cur, e, _⟩
  · exact Or.inl (List.eq_nil_of_length_eq_zero h0)
  · have e0 := e
    injection e with e1 e2 e3
    subst e1
    refine Or.inr ⟨g, 0, rfl, fun i r hi j v hv => ?_⟩
    have h1 := (List.getElem?_eq_some_iff.1 hi).1
    have h2 := (List.getElem?_eq_some_iff.1 hv).1
    have h2 : j < 6 := h2
    rw [Nat.zero_add, World.ownsRow.cellAt h (i * 6 + j) (by omega), flatC_at h2 hi]
    exact hv
theorem RdR.later {w w' : World} {a : Option Addr} {rs : List Rc} (h : RdR w a rs) (hb : Below w.heap.size w w') : RdR w' a rs := by
  rcases h with h | ⟨b, off, ha, hc⟩
  · exact Or.inl h
  · exact Or.inr ⟨b, off, ha, fun i r hi j v hv => (hb.cell (World.block_lt_of_cell? _ _ (hc i r hi j v hv))).trans (hc i r hi j v hv)⟩
theorem OwnR.cap_le {w : World} {B : Nat} {a : Option Addr} {cap : Nat} {rs : List Rc} (h : OwnR w B a cap rs) : rs.length ≤ cap := by
  rcases h.2 with ⟨e, h0⟩ | ⟨g, c, cur, e, _, _, hnc, _⟩
  · omega
  · injection e with _ _ e3
    rw [e3]
    exact hnc
theorem OwnR.later {w w' : World} {B : Nat} {a : Option Addr} {cap : Nat} {rs : List Rc} (h : OwnR w B a cap rs) (hb : Below w.heap.size w w') : OwnR w' B a cap rs := by
  refine ⟨h.1, ?_⟩
  rcases h.2 with h | ⟨g, c, cur, e, hB, hg, hr⟩
  · exact Or.inl h
  · exact Or.inr ⟨g, c, cur, e, hB, (hb.block g (Array.getElem?_eq_some_iff.1 hg).1).trans hg, hr⟩
theorem OwnR.alloc {w : World} {B : Nat} {a : Option Addr} {cap : Nat} {rs : List Rc} (h : OwnR w B a cap rs) (o : Obj) : OwnR (w.alloc o) B a cap rs := World.ownsRow.alloc h o
theorem cells_new (w : World) (l : List Value) (t : TypeId) : ∀ j u, l[j]? = some u → (w.alloc (.cells l.toArray t)).cell? ((⟨w.heap.size, 0, none⟩ : Addr).add j) = some u := by
  intro j u hj
  rw [Go.WideShapes.add_plain, (Box.new w l.toArray t).cell (0 + j)]
  simpa using hj
/-- A record is appended, which lies in a block of its own. -/
theorem wpList_appRc {ops : Array Oper} {rest : List Oper} {o : Oper} {act : Act} {Q : Exit → Act → World → Prop} {w : World} (hgd : o.guard = none) (s x : Operand) (ho : o.op = .call { callee := .builtin .append, args := #[s, x], argTypes := #[92, 92] })
    (B : Nat) (a : Option Addr) (cap : Nat) (rs : List Rc) (r : Rc) (hs : act.eval s = .slice a rs.length cap) (hown : OwnR w B a cap rs)
    (b2 : Nat) (hx : act.eval x = .slice (some ⟨b2, 0, none⟩) 1 1) (hr : ∀ j u, (recL r)[j]? = some u → w.cell? ((⟨b2, 0, none⟩ : Addr).add j) = some u) (hl : rs.length ≤ 1000000) (hB : B ≤ w.heap.size)
    (h : ∀ a' cap' w', OwnR w' B a' cap' (rs ++ [r]) → Below B w w' → wpList Tryz.prog ops Q rest (act.put o.dst (.slice a' (rs ++ [r]).length cap')) w') : wpList Tryz.prog ops Q (o :: rest) act w := by
  obtain ⟨i0, hi0, hz0, hz1, hz2⟩ := info_parts infoR
  refine wpList_append_own_at _ hgd s x _ ho B 79 i0 _ 6 64 Tryz.underlying92 hi0 hz0 hz1 hz2 rfl (by decide) (.slice a rs.length cap) _ _ hs hown ⟨b2, 0, none⟩ 1 1 (recL r) hx rfl hr (recL_one r) (by unfold maxLen; omega) (by omega) hB ?_
  intro v' w' hown' hg _ _
  obtain ⟨a', cap', rfl⟩ := own_slice hown'
  have := h a' cap' w' (by unfold OwnR; rw [List.length_append, flatC_append]; simpa [flatC] using hown') ((Below.refl _ _).grown hg hB (fun k hk => (hown.lt k hk).1))
  simpa using this

theorem scan_step {l : List Int} (hb : Byts l) {rs : List Rc} {n : Nat} (h1 : ∀ r ∈ rs, soundR r ∧ FitR r) (h2 : n = (flatR rs).length) (h3 : l = flatR rs ++ l.drop n) {r : Rc} {m : Nat} (h : decR (l.drop n) = some (r, m)) :
    (∀ x ∈ rs ++ [r], soundR x ∧ FitR x) ∧ n + m = (flatR (rs ++ [r])).length ∧ l = flatR (rs ++ [r]) ++ l.drop (n + m) ∧ n + m ≤ l.length ∧ 26 ≤ m := by
  obtain ⟨g1, g2, g3, g4, g5, g6⟩ := enc_inv (hb.drop n) h
  rw [List.length_drop] at g3
  refine ⟨fun x hx => ?_, ?_, ?_, by omega, g4⟩
  · rcases List.mem_append.1 hx with hx | hx
    · exact h1 x hx
    · rw [List.mem_singleton.1 hx]
      exact ⟨g1, g2⟩
  · rw [h2, g5]
    simp [flatR]
  · conv => lhs; rw [h3, g6]
    simp [flatR, List.drop_drop]

set_option maxHeartbeats 2000000 in
theorem scan_at (l : List Int) (len : Nat) (a : Option Addr) (cap : Nat) (w : World) (hn : l.length = len) (hr : RdB w a l) (hb : Byts l) (hc : len ≤ cap) (hl : len < 1000000) (hp : cap = 0 ∨ ∃ b off, a = some ⟨b, off, none⟩) :
    Calls Tryz.prog 38 #[.slice a len cap] w fun e w' => ∃ (rs : List Rc) (n : Nat) (a' : Option Addr) (cap' : Nat), e = .returned (.tuple #[.slice a' rs.length cap', .int .i64 n]) ∧ Scanned l rs n ∧ OwnR w' w.heap.size a' cap' rs ∧ n ≤ len ∧ rs.length ≤ len ∧ Below w.heap.size w w' := by
  have HLEN := Lib.hid hn
  have HRD := Lib.hid hr
  have HBY := Lib.hid hb
  clear hn hr hb
  go_enter Tryz.func38, Tryz.ntmps38
  go_wp2_with fail
  go_loopw [4, 5] (fun vs vn wx => ∃ (rs : List Rc) (n : Nat) (a' : Option Addr) (cap' : Nat), n ≤ len ∧ rs.length ≤ n ∧ vs = .slice a' rs.length cap' ∧ vn = .int .i64 n ∧ Hid (∀ r ∈ rs, soundR r ∧ FitR r) ∧ Hid (n = (flatR rs).length) ∧ Hid (l = flatR rs ++ l.drop n) ∧ Hid (OwnR wx w.heap.size a' cap' rs) ∧ Hid (Below w.heap.size w wx)) (fun _ vn _ => len - (intOf vn).toNat)
  case atStart => exact ⟨[], 0, none, 0, by omega, by simp, rfl, rfl, Lib.hid (by simp), Lib.hid rfl, Lib.hid (by simp [flatR]), Lib.hid (World.ownsRow_nil _ _ _ _), Lib.hid (Below.refl _ _)⟩
  case round =>
    obtain ⟨rs, n, a', cap', hnl, hrn, rfl, rfl, H1, H2, H3, HOW, HB⟩ := hrel
    have hbs := HB.out.size
    go_upto_region 3 with fail
    go_cut [6, 7, 8] (fun v6 v7 v8 wx => ∃ (r : Rc) (m : Int) (b : Bool) (g : Nat), v6 = .pointer (some ⟨g, 0, none⟩) ∧ v7 = .int .i64 m ∧ v8 = .bool b ∧ w.heap.size ≤ g ∧ Hid ((b = true ∧ ∃ k : Nat, m = k ∧ decR (l.drop n) = some (r, k)) ∨ (b = false ∧ decR (l.drop n) = none)) ∧ Hid (Box wx g (recL r).toArray 79) ∧ Hid (OwnR wx w.heap.size a' cap' rs) ∧ Hid (Below w.heap.size w wx))
    case first =>
      rcases hp with rfl | ⟨b, off, rfl⟩
      · skip
        have HRX : RdB wr a (l.drop n) := Or.inl (List.drop_eq_nil_of_le (by rw [HLEN.out]; omega))
        have HRN : Hid (RdB wr a (l.drop n)) := Lib.hid HRX
        go_wp2_with fail
        refine (decode_at (l.drop n) (len - n) _ _ _ (by rw [List.length_drop, HLEN.out]) HRN.out (HBY.out.drop n) (by omega) (by omega)).mono ?_
        rintro e w1 ⟨⟨⟨k1, k2, k3, k4, k5, k6⟩, m, b, he, hcase⟩, hb1⟩
        have he' : e = .returned (.tuple #[.agg #[.int .i64 k1, .int .i64 k2, .string k3, .string k4, .int .i64 k5, .int .i64 k6], .int .i64 m, .bool b]) := he
        subst he'
        clear he
        have HC := Lib.hid hcase
        clear hcase
        have hb1s := hb1.size
        go_wp2_with fail
        go_meet
        exact ⟨⟨k1, k2, k3, k4, k5, k6⟩, m, b, w1.heap.size, rfl, rfl, rfl, by omega, HC, Lib.hid (Box.new w1 _ _), Lib.hid ((HOW.out.later hb1).alloc _), Lib.hid ((HB.out.trans (hb1.mono HB.out.size)).alloc (by omega) _)⟩
      · have HRW := Lib.hid (HRD.out.later (HB.out.mono (Nat.le_refl _)))
        obtain ⟨i0, hi0, hz0, hz1, hz2⟩ := info_parts info5
        obtain ⟨U, hU, hU1, _⟩ := slice_from (P := Tryz.prog) 55 5 Tryz.underlying55 hi0 hz1 b off len cap n hnl hc
        have HRX : RdB wr (some ⟨b, U, none⟩) (l.drop n) := RdB.rest HRW.out (by rw [HLEN.out]; exact hc) hU1
        clear hi0 hz0 hz1 hz2 hU1
        have HRN : Hid (RdB wr (some ⟨b, U, none⟩) (l.drop n)) := Lib.hid HRX
        go_wp2_with (refine wpList_slice rfl 55 _ _ _ _ _ rfl rfl hU ?_)
        refine (decode_at (l.drop n) (len - n) _ _ _ (by rw [List.length_drop, HLEN.out]) HRN.out (HBY.out.drop n) (by omega) (by omega)).mono ?_
        rintro e w1 ⟨⟨⟨k1, k2, k3, k4, k5, k6⟩, m, b, he, hcase⟩, hb1⟩
        have he' : e = .returned (.tuple #[.agg #[.int .i64 k1, .int .i64 k2, .string k3, .string k4, .int .i64 k5, .int .i64 k6], .int .i64 m, .bool b]) := he
        subst he'
        clear he
        have HC := Lib.hid hcase
        clear hcase
        have hb1s := hb1.size
        go_wp2_with fail
        go_meet
        exact ⟨⟨k1, k2, k3, k4, k5, k6⟩, m, b, w1.heap.size, rfl, rfl, rfl, by omega, HC, Lib.hid (Box.new w1 _ _), Lib.hid ((HOW.out.later hb1).alloc _), Lib.hid ((HB.out.trans (hb1.mono HB.out.size)).alloc (by omega) _)⟩
    case rest =>
      clear HOW HB hbs
      obtain ⟨⟨k1, k2, k3, k4, k5, k6⟩, m, b, g, rfl, rfl, rfl, hg, HC, HBX, HOW, HB⟩ := hcut
      have hbx : Box wc g #[.int .i64 k1, .int .i64 k2, .string k3, .string k4, .int .i64 k5, .int .i64 k6] 79 := HBX.out
      obtain ⟨lx, cx, fx⟩ := hbx.facts
      clear hbx
      have hbs := HB.out.size
      cases b with
      | false =>
        have hnone : decR (l.drop n) = none := by
          rcases HC.out with ⟨h, _⟩ | ⟨_, h⟩
          · cases h
          · exact h
        have HN := Lib.hid hnone
        clear hnone
        go_wp2_with fail
        exact bodyPost_ret (v := .tuple #[.slice a' rs.length cap', .int .i64 n]) (by simp [results, Tryz.results38, go_sem]) rfl ⟨rs, n, a', cap', rfl, ⟨H1.out, H2.out, H3.out, HN.out⟩, HOW.out, hnl, by omega, HB.out⟩
      | true =>
        obtain ⟨k, hk, hdec⟩ : ∃ k : Nat, m = k ∧ decR (l.drop n) = some (⟨k1, k2, k3, k4, k5, k6⟩, k) := by
          rcases HC.out with ⟨_, h⟩ | ⟨h, _⟩
          · exact h
          · cases h
        subst hk
        obtain ⟨g1, g2, g3, g4, g5⟩ := scan_step HBY.out H1.out H2.out H3.out hdec
        rw [HLEN.out] at g4
        have G1 := Lib.hid g1
        have G2 := Lib.hid g2
        have G3 := Lib.hid g3
        have GL : Hid (rs.length + 1 = (rs ++ [(⟨k1, k2, k3, k4, k5, k6⟩ : Rc)]).length) := Lib.hid (by simp)
        clear g1 g2 g3 hdec H1 H2 H3 HC
        go_wp2_with (at_builtin; refine wpList_appRc rfl _ _ rfl w.heap.size a' cap' rs ⟨k1, k2, k3, k4, k5, k6⟩ rfl (HOW.out.alloc _) wc.heap.size rfl (cells_new wc (recL ⟨k1, k2, k3, k4, k5, k6⟩) 79) (by omega) (by simp; omega) ?_; intro a2 cap2 w2 hown2 hb2)
        have HB2 := Lib.hid ((HB.out.alloc hbs _).trans hb2)
        generalize rs ++ [(⟨k1, k2, k3, k4, k5, k6⟩ : Rc)] = rs2 at *
        go_roundw
        case rel => exact ⟨rs2, n + k, a2, cap2, g4, by have := GL.out; omega, by rw [GL.out], by go_num, G1, G2, G3, Lib.hid hown2, HB2⟩
        case measure => simp [intOf]; omega
end Go.Proofs.YtimkgaokcldgkaaGreatDoor
/- Package frame: the bytes of a record. -/
namespace Go.Proofs.YtimkgaokcldgkaaGreatDoor
open Go.RowKit
set_option maxRecDepth 100000

theorem appNum_as (B : Nat) (n : Int) (size : Nat) (xs ys : List Int) (hy : xs ++ bigI n size = ys) (a : Option Addr) (len cap : Nat) (w : World) (hlen : xs.length = len) (hs : size ≤ 8) (hown : OwnB w B a cap xs) (hB : B ≤ w.heap.size) (hl : len < 100000) :
    Calls Tryz.prog 43 #[.slice a len cap, .int .i64 n, .int .i64 size] w fun e w' => ∃ a' cap', e = .returned (.slice a' ys.length cap') ∧ OwnB w' B a' cap' ys ∧ Below B w w' := by
  subst hy
  subst hlen
  exact appNum_at B n size xs a cap w hs hown hB hl

set_option maxHeartbeats 1000000 in
theorem enc_no (r : Rc) (w : World) (h : ¬ soundR r) :
    Calls Tryz.prog 26 #[.agg (recL r).toArray] w fun e w' => e = .returned (.tuple #[.slice none 0 0, .int .i64 2]) ∧ Below w.heap.size w w' := by
  show Calls Tryz.prog 26 #[.agg #[.int .i64 r.kind, .int .i64 r.id, .string r.host, .string r.path, .int .i64 r.prio, .int .i64 r.till]] w _
  go_enter Tryz.func26, Tryz.ntmps26
  go_wp2_with fail
  refine (sound_no r _ h).mono ?_
  rintro e w1 ⟨rfl, hb1⟩
  go_wp2_with fail
  exact bodyPost_ret (v := .tuple #[.slice none 0 0, .int .i64 2]) (by simp [results, Tryz.results26, go_sem]) rfl ⟨rfl, ((Below.refl _ _).alloc (Nat.le_refl _) _).trans (hb1.mono (by simp))⟩

set_option maxHeartbeats 2000000 in
theorem enc_yes (r : Rc) (w : World) (h : soundR r) :
    Calls Tryz.prog 26 #[.agg (recL r).toArray] w fun e w' => ∃ a' cap', e = .returned (.tuple #[.slice a' (encR r).length cap', .int .i64 0]) ∧ OwnB w' w.heap.size a' cap' (encR r) ∧ Below w.heap.size w w' := by
  show Calls Tryz.prog 26 #[.agg #[.int .i64 r.kind, .int .i64 r.id, .string r.host, .string r.path, .int .i64 r.prio, .int .i64 r.till]] w _
  obtain ⟨s1, s2, s3, s4, s5, s6, s7, s8⟩ := id h
  have hk : r.kind % 256 = r.kind := by omega
  have hpr : r.prio % 256 = r.prio := by omega
  have hby := contR_byts h
  obtain ⟨x2, hx2⟩ : ∃ x, [r.kind, r.prio] ++ bigI r.id 8 = x := ⟨_, rfl⟩
  obtain ⟨x3, hx3⟩ : ∃ x, x2 ++ bigI r.till 8 = x := ⟨_, rfl⟩
  obtain ⟨x4, hx4⟩ : ∃ x, x3 ++ bigI r.host.size 2 = x := ⟨_, rfl⟩
  obtain ⟨x5, hx5⟩ : ∃ x, x4 ++ btL r.host = x := ⟨_, rfl⟩
  obtain ⟨x6, hx6⟩ : ∃ x, x5 ++ btL r.path = x := ⟨_, rfl⟩
  have hc : contR r = x6 := by
    rw [← hx6, ← hx5, ← hx4, ← hx3, ← hx2]
    simp [contR]
  rw [hc] at hby
  have l2 : x2.length = 10 := by rw [← hx2]; simp
  have l3 : x3.length = 18 := by rw [← hx3, List.length_append, l2]; simp
  have l4 : x4.length = 20 := by rw [← hx4, List.length_append, l3]; simp
  have l5 : x5.length = 20 + r.host.size := by rw [← hx5, List.length_append, l4]; simp
  have l6 : x6.length = 20 + r.host.size + r.path.size := by rw [← hx6, List.length_append, l5]; simp
  obtain ⟨y1, hy1⟩ : ∃ y, [] ++ bigI x6.length 2 = y := ⟨_, rfl⟩
  obtain ⟨y2, hy2⟩ : ∃ y, y1 ++ bigI (sumC x6).toNat 4 = y := ⟨_, rfl⟩
  have m1 : y1.length = 2 := by rw [← hy1]; simp
  have m2 : y2.length = 6 := by rw [← hy2, List.length_append, m1]; simp
  have he : encR r = y2 ++ x6 := by
    unfold encR recB
    rw [hc, ← hy2, ← hy1]
    simp
  obtain ⟨sm, hsm⟩ : ∃ s, sumC x6 = s := ⟨_, rfl⟩
  rw [hsm] at hy2
  have b2 : x2.length ≤ 2000 := by omega
  have b3 : x3.length ≤ 2000 := by omega
  have b4 : x4.length ≤ 2000 := by omega
  have b5 : x5.length ≤ 2000 := by omega
  have b6 : x6.length ≤ 2000 := by omega
  have b6' : 20 ≤ x6.length := by omega
  have n1 : y1.length ≤ 10 := by omega
  have n2 : y2.length ≤ 10 := by omega
  have HX2 := Lib.hid hx2
  have HX3 := Lib.hid hx3
  have HX4 := Lib.hid hx4
  have HX5 := Lib.hid hx5
  have HX6 := Lib.hid hx6
  have HY1 := Lib.hid hy1
  have HY2 := Lib.hid hy2
  have HSM := Lib.hid hsm
  have HE := Lib.hid he
  have HBY := Lib.hid hby
  have HLN : Hid ((y2 ++ x6).length = y2.length + x6.length) := Lib.hid (by simp)
  clear hx2 hx3 hx4 hx5 hx6 hy1 hy2 hsm he hc hby l2 l3 l4 l5 l6 m1 m2
  go_enter Tryz.func26, Tryz.ntmps26
  go_wp2_with fail
  refine (sound_yes r _ h).mono ?_
  rintro e w1 ⟨rfl, hb1⟩
  have z1 := (Box.new w #[.int .i64 r.kind, .int .i64 r.id, .string r.host, .string r.path, .int .i64 r.prio, .int .i64 r.till] 79).later hb1
  have B1 : Below w.heap.size w w1 := ((Below.refl _ _).alloc (Nat.le_refl _) _).trans (hb1.mono (by simp))
  clear hb1
  obtain ⟨lx, cx, fx⟩ := z1.facts
  have B1s : w.heap.size + 1 ≤ w1.heap.size := lx
  go_wp2_with fail
  refine (appNum_as (w.heap.size + 1) r.id 8 [r.kind, r.prio] x2 HX2.out _ 2 _ _ rfl (by decide) (OwnB.lit (w := w1) [r.kind, r.prio] B1s (by simp)) (by simp; omega) (by decide)).mono ?_
  rintro e w2 ⟨a2, c2, rfl, ho2, hb2⟩
  have z2 := (z1.alloc (.cells ([r.kind, r.prio].map (Value.int .u8)).toArray 5)).below hb2 (by omega)
  have B2 := (B1.alloc (by omega) (.cells ([r.kind, r.prio].map (Value.int .u8)).toArray 5)).trans (hb2.mono (by omega))
  clear lx cx fx
  obtain ⟨lx, cx, fx⟩ := z2.facts
  have B2s : w.heap.size + 1 ≤ w2.heap.size := lx
  go_wp2_with fail
  refine (appNum_as (w.heap.size + 1) r.till 8 x2 x3 HX3.out _ _ _ _ rfl (by decide) ho2 B2s (by omega)).mono ?_
  rintro e w3 ⟨a3, c3, rfl, ho3, hb3⟩
  have z3 := z2.below hb3 (by omega)
  have B3 := B2.trans (hb3.mono (by omega))
  clear lx cx fx
  obtain ⟨lx, cx, fx⟩ := z3.facts
  have B3s : w.heap.size + 1 ≤ w3.heap.size := lx
  go_wp2_with fail
  refine (appNum_as (w.heap.size + 1) r.host.size 2 x3 x4 HX4.out _ _ _ _ rfl (by decide) ho3 B3s (by omega)).mono ?_
  rintro e w4 ⟨a4, c4, rfl, ho4, hb4⟩
  have z4 := z3.below hb4 (by omega)
  have B4 := B3.trans (hb4.mono (by omega))
  clear lx cx fx
  obtain ⟨lx, cx, fx⟩ := z4.facts
  have B4s : w.heap.size + 1 ≤ w4.heap.size := lx
  go_wp2_with (first
    | (at_builtin; refine wpList_apps rfl _ _ rfl (w.heap.size + 1) a4 c4 x4 rfl ho4 r.host rfl (by omega) B4s ?_; rw [HX5.out]; intro a5 c5 w5 ho5 hb5; have z5 := z4.below hb5 (by omega); have B5 := B4.trans (hb5.mono (by omega)); clear lx cx fx; obtain ⟨lx, cx, fx⟩ := z5.facts; have B5s : w.heap.size + 1 ≤ w5.heap.size := lx)
    | (at_builtin; refine wpList_apps rfl _ _ rfl (w.heap.size + 1) a5 c5 x5 rfl ho5 r.path rfl (by omega) B5s ?_; rw [HX6.out]; intro a6 c6 w6 ho6 hb6; have z6 := z5.below hb6 (by omega); have B6 := B5.trans (hb6.mono (by omega)); clear lx cx fx; obtain ⟨lx, cx, fx⟩ := z6.facts; have B6s : w.heap.size + 1 ≤ w6.heap.size := lx))
  refine (appNum_as w6.heap.size x6.length 2 [] y1 HY1.out _ 0 _ _ rfl (by decide) (OwnB.nil _ _) (Nat.le_refl _) (by decide)).mono ?_
  rintro e w7 ⟨a7, c7, rfl, ho7, hb7⟩
  have q7 := ho6.later hb7
  have B7 := B6.trans (hb7.mono (by omega))
  have B7s := hb7.size
  go_wp2_with fail
  refine (sum_as x6 x6.length sm _ _ _ q7.rd rfl HBY.out (by omega) HSM.out).mono ?_
  rintro e w' ⟨rfl, rfl⟩
  go_wp2_with fail
  refine (appNum_as w6.heap.size sm.toNat 4 y1 y2 HY2.out _ _ _ _ rfl (by decide) ho7 B7s (by omega)).mono ?_
  rintro e w8 ⟨a8, c8, rfl, ho8, hb8⟩
  have q8 : OwnB w8 (w.heap.size + 1) a6 c6 x6 := ho6.later (hb7.trans hb8)
  have B8 := B7.trans (hb8.mono (by omega))
  have B8s := Nat.le_trans B7s hb8.size
  obtain ⟨_, h0, _⟩ | ⟨g6, rfl, _⟩ := q8.form
  · have h1 := congrArg List.length h0
    simp only [List.length_nil] at h1
    omega
  have HQ := Lib.hid q8
  clear q8 q7 ho7 ho6 ho5 ho4 ho3 ho2
  go_wp2_with (at_builtin; refine wpList_app rfl _ _ rfl w6.heap.size a8 c8 y2 rfl ho8 g6 0 c6 x6 rfl HQ.out.rd (by omega) B8s ?_; rw [← HE.out]; intro a9 c9 w9 ho9 hb9)
  have B9 := B8.trans (hb9.mono (by omega))
  exact bodyPost_ret (v := .tuple #[.slice a9 (encR r).length c9, .int .i64 0]) (by simp [results, Tryz.results26, go_sem]) rfl ⟨a9, c9, rfl, ho9.mono (by omega), B9⟩
end Go.Proofs.YtimkgaokcldgkaaGreatDoor
