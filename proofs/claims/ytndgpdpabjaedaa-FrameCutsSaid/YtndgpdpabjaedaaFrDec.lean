/- Package frame: the first record of bytes. -/
import Derived.Test.YtndgpdpabjaedaaFrRec
import Derived.Test.YtndgpdpabjaedaaBox
import Derived.Test.YtndgpdpabjaedaaLast
import Derived.Test.YtndgpdpabjaedaaRow
import Derived.Deep.Cut
import Derived.Deep.CutRange
import Derived.Deep.DeepCutAuto
namespace Go.Proofs.Ytndgpdpabjaedaa
open Go.RowKit
set_option linter.unusedSimpArgs false

theorem number_as (l : List Int) (n : Nat) (v : Int) (a : Option Addr) (cap : Nat) (w : World) (hr : RdB w a l) (hn : l.length = n) (hb : Byts l) (hl : n ≤ 8) (hv : wrap64 (valI l) = v) :
    Calls Try.prog 20 #[.slice a n cap] w fun e w' => e = .returned (.int .i64 v) ∧ w = w' := by
  subst hn
  subst hv
  exact number_at l a cap w hr hb (by omega)
theorem sum_as (l : List Int) (n : Nat) (v : BitVec 32) (a : Option Addr) (cap : Nat) (w : World) (hr : RdB w a l) (hn : l.length = n) (hb : Byts l) (hl : n < 1000000) (hv : sumC l = v) :
    Calls Try.prog 14 #[.slice a n cap] w fun e w' => e = .returned (.int .u32 v.toNat) ∧ w = w' := by
  subst hn
  subst hv
  exact sum_at l a cap w hr hb hl

/-- What decoding comes to. -/
def DecP (l : List Int) (e : Ending) : Prop := ∃ (r : Rc) (n : Int) (b : Bool), e = .returned (.tuple #[.agg (recL r).toArray, .int .i64 n, .bool b]) ∧ ((b = true ∧ ∃ m : Nat, n = m ∧ decR l = some (r, m)) ∨ (b = false ∧ decR l = none))
def zeroR : Rc := ⟨0, 0, ByteArray.empty, ByteArray.empty, 0, 0⟩
theorem decP_none {l : List Int} (h : decR l = none) : DecP l (.returned (.tuple #[.agg #[.int .i64 0, .int .i64 0, .string ByteArray.empty, .string ByteArray.empty, .int .i64 0, .int .i64 0], .int .i64 0, .bool false])) :=
  ⟨zeroR, 0, false, rfl, Or.inr ⟨rfl, h⟩⟩

set_option maxHeartbeats 1000000 in
theorem decode_short (l : List Int) (a : Option Addr) (cap : Nat) (w : World) (h : l.length < 6) :
    Calls Try.prog 18 #[.slice a l.length cap] w fun e w' => DecP l e ∧ Below w.heap.size w w' := by
  have hd : decR l = none := by unfold decR; rw [if_pos h]
  have HD := Lib.hid hd
  clear hd
  go_enter Try.func18, Try.ntmps18
  go_wp2_with fail
  exact bodyPost_ret (v := .tuple #[.agg #[.int .i64 0, .int .i64 0, .string ByteArray.empty, .string ByteArray.empty, .int .i64 0, .int .i64 0], .int .i64 0, .bool false]) (by simp [results, Try.results18, go_sem]; rfl) rfl ⟨decP_none HD.out, (Below.refl _ _).alloc (Nat.le_refl _) _⟩

set_option maxHeartbeats 1000000 in
theorem decode_cut (l : List Int) (b off : Nat) (cap : Nat) (w : World) (hr : RdB w (some ⟨b, off, none⟩) l) (hb : Byts l) (hc : l.length ≤ cap) (hl : l.length < 1000000) (m : Nat) (hm : (valI (l.take 2)).toNat = m) (h6 : 6 ≤ l.length) (h : l.length < 6 + m ∨ 6 + m < 26) :
    Calls Try.prog 18 #[.slice (some ⟨b, off, none⟩) l.length cap] w fun e w' => DecP l e ∧ Below w.heap.size w w' := by
  have hd : decR l = none := by unfold decR; rw [if_neg (by omega), if_pos (by rw [hm]; exact h)]
  have HD := Lib.hid hd
  have hv := valI_lt (l.take 2) (hb.take 2)
  rw [show (l.take 2).length = 2 by simp; omega] at hv
  have HV : Hid (wrap64 (valI (l.take 2)) = m) := Lib.hid (by rw [wrap64_id hv.1 (by omega)]; omega)
  have hm2 : m < 65536 := by omega
  have HM := Lib.hid hm
  clear hd hm hv
  have h6' : decide ((l.length : Int) < 6) = false := decide_eq_false (by omega)
  have HR := Lib.hid hr
  have HB := Lib.hid hb
  have HL : Hid ((l.take 2).length = 2) := Lib.hid (by simp; omega)
  clear hr hb
  by_cases g : l.length < 6 + m
  · have g' : decide ((l.length : Int) < 6 + m) = true := decide_eq_true (by omega)
    clear h
    go_enter Try.func18, Try.ntmps18
    go_wp2_with (go_at_call 20; (with_reducible refine (number_as (l.take 2) 2 m _ _ _ ((HR.out.alloc _).take 2) HL.out (HB.out.take 2) (by decide) HV.out).mono ?_); rintro e w' ⟨rfl, rfl⟩)
    exact bodyPost_ret (v := .tuple #[.agg #[.int .i64 0, .int .i64 0, .string ByteArray.empty, .string ByteArray.empty, .int .i64 0, .int .i64 0], .int .i64 0, .bool false]) (by simp [results, Try.results18, go_sem]; rfl) rfl ⟨decP_none HD.out, (Below.refl _ _).alloc (Nat.le_refl _) _⟩
  · have g' : decide ((l.length : Int) < 6 + m) = false := decide_eq_false (by omega)
    have g2 : decide (6 + (m : Int) < 26) = true := decide_eq_true (by omega)
    clear h
    go_enter Try.func18, Try.ntmps18
    go_wp2_with (go_at_call 20; (with_reducible refine (number_as (l.take 2) 2 m _ _ _ ((HR.out.alloc _).take 2) HL.out (HB.out.take 2) (by decide) HV.out).mono ?_); rintro e w' ⟨rfl, rfl⟩)
    exact bodyPost_ret (v := .tuple #[.agg #[.int .i64 0, .int .i64 0, .string ByteArray.empty, .string ByteArray.empty, .int .i64 0, .int .i64 0], .int .i64 0, .bool false]) (by simp [results, Try.results18, go_sem]; rfl) rfl ⟨decP_none HD.out, (Below.refl _ _).alloc (Nat.le_refl _) _⟩

/-- What the later ways have in common. -/
structure Head (l : List Int) (b off cap : Nat) (w : World) (m : Nat) (C : List Int) : Prop where
  rd : RdB w (some ⟨b, off, none⟩) l
  by_ : Byts l
  cp : l.length ≤ cap
  len : l.length < 1000000
  hm : (valI (l.take 2)).toNat = m
  ge : 20 ≤ m
  le : 6 + m ≤ l.length
  hC : (l.drop 6).take m = C
theorem Head.m_lt {l : List Int} {b off cap : Nat} {w : World} {m : Nat} {C : List Int} (h : Head l b off cap w m C) : m < 65536 := by
  have hv := valI_lt (l.take 2) (h.by_.take 2)
  rw [show (l.take 2).length = 2 by have := h.le; have := h.ge; simp; omega] at hv
  have := h.hm
  omega
theorem Head.num {l : List Int} {b off cap : Nat} {w : World} {m : Nat} {C : List Int} (h : Head l b off cap w m C) : wrap64 (valI (l.take 2)) = m := by
  have hv := valI_lt (l.take 2) (h.by_.take 2)
  rw [show (l.take 2).length = 2 by have := h.le; have := h.ge; simp; omega] at hv
  have := h.hm
  rw [wrap64_id hv.1 (by omega)]
  omega
theorem Head.clen {l : List Int} {b off cap : Nat} {w : World} {m : Nat} {C : List Int} (h : Head l b off cap w m C) : C.length = m := by
  have := h.le
  rw [← h.hC]
  simp
  omega
theorem Head.cby {l : List Int} {b off cap : Nat} {w : World} {m : Nat} {C : List Int} (h : Head l b off cap w m C) : Byts C := h.hC ▸ (h.by_.drop 6).take m
theorem Head.crd {l : List Int} {b off cap : Nat} {w : World} {m : Nat} {C : List Int} (h : Head l b off cap w m C) : RdB w (some ⟨b, off + 6, none⟩) C := h.hC ▸ (h.rd.drop 6).take m
theorem Head.two {l : List Int} {b off cap : Nat} {w : World} {m : Nat} {C : List Int} (h : Head l b off cap w m C) : (l.take 2).length = 2 := by have := h.le; have := h.ge; simp; omega
theorem Head.four {l : List Int} {b off cap : Nat} {w : World} {m : Nat} {C : List Int} (h : Head l b off cap w m C) : ((l.drop 2).take 4).length = 4 := by have := h.le; have := h.ge; simp; omega
theorem wrap64_small {l : List Int} (h : Byts l) (hl : l.length ≤ 7) : wrap64 (valI l) = valI l := by
  have := valI_lt l h
  refine wrap64_id this.1 ?_
  rcases (by omega : l.length = 0 ∨ l.length = 1 ∨ l.length = 2 ∨ l.length = 3 ∨ l.length = 4 ∨ l.length = 5 ∨ l.length = 6 ∨ l.length = 7) with e | e | e | e | e | e | e | e <;> rw [e] at this <;> omega

set_option maxHeartbeats 1000000 in
theorem decode_sum (l : List Int) (b off : Nat) (cap : Nat) (w : World) (m : Nat) (C : List Int) (H : Head l b off cap w m C) (hs : valI ((l.drop 2).take 4) ≠ (sumC C).toNat) :
    Calls Try.prog 18 #[.slice (some ⟨b, off, none⟩) l.length cap] w fun e w' => DecP l e ∧ Below w.heap.size w w' := by
  have hd : decR l = none := by
    have h1 := H.le
    have h2 := H.ge
    unfold decR
    rw [if_neg (by omega), if_neg (by rw [H.hm]; omega), if_pos (by rw [H.hm, H.hC]; exact hs)]
  have HD := Lib.hid hd
  clear hd
  have hml := H.m_lt
  have hge := H.ge
  have hle := H.le
  have hcp := H.cp
  have hll := H.len
  have g1 : decide ((l.length : Int) < 6) = false := decide_eq_false (by omega)
  have g2 : decide ((l.length : Int) < 6 + m) = false := decide_eq_false (by omega)
  have g3 : decide (6 + (m : Int) < 26) = false := decide_eq_false (by omega)
  obtain ⟨s, hsc⟩ : ∃ s, sumC C = s := ⟨_, rfl⟩
  rw [hsc] at hs
  obtain ⟨v, hv⟩ : ∃ v, valI ((l.drop 2).take 4) = v := ⟨_, rfl⟩
  rw [hv] at hs
  have hv2 : wrap64 (valI ((l.drop 2).take 4)) = v := by rw [wrap64_small ((H.by_.drop 2).take 4) (by rw [H.four]; decide), hv]
  have g4 : (v != (s.toNat : Int)) = true := by simpa using hs
  have HS := Lib.hid hsc
  have HV := Lib.hid hv2
  clear hs hsc hv hv2
  go_enter Try.func18, Try.ntmps18
  go_wp2_with (first
    | (go_at_call 20; (with_reducible refine (number_as (l.take 2) 2 m _ _ _ ((H.rd.alloc _).take 2) H.two (H.by_.take 2) (by decide) H.num).mono ?_); rintro e w' ⟨rfl, rfl⟩)
    | (go_at_call 20; (with_reducible refine (number_as ((l.drop 2).take 4) 4 v _ _ _ ((H.rd.alloc _).drop 2 |>.take 4) H.four ((H.by_.drop 2).take 4) (by decide) HV.out).mono ?_); rintro e w' ⟨rfl, rfl⟩)
    | (go_at_call 14; (with_reducible refine (sum_as C m s _ _ _ (H.crd.alloc _) H.clen H.cby (by omega) HS.out).mono ?_); rintro e w' ⟨rfl, rfl⟩))
  exact bodyPost_ret (v := .tuple #[.agg #[.int .i64 0, .int .i64 0, .string ByteArray.empty, .string ByteArray.empty, .int .i64 0, .int .i64 0], .int .i64 0, .bool false]) (by simp [results, Try.results18, go_sem]; rfl) rfl ⟨decP_none HD.out, (Below.refl _ _).alloc (Nat.le_refl _) _⟩

set_option maxHeartbeats 2000000 in
theorem decode_host (l : List Int) (b off : Nat) (cap : Nat) (w : World) (m : Nat) (C : List Int) (H : Head l b off cap w m C) (hs : valI ((l.drop 2).take 4) = (sumC C).toNat) (h : Nat) (hh : (valI ((C.drop 18).take 2)).toNat = h) (hbad : m < 20 + h) :
    Calls Try.prog 18 #[.slice (some ⟨b, off, none⟩) l.length cap] w fun e w' => DecP l e ∧ Below w.heap.size w w' := by
  have hcl := H.clen
  have hge := H.ge
  have hle := H.le
  have hd : decR l = none := by
    unfold decR
    rw [if_neg (by omega), if_neg (by rw [H.hm]; omega), if_neg (by rw [H.hm, H.hC]; exact fun e => e hs)]
    simp only [H.hm, H.hC, hh]
    rw [if_pos (by simp; omega)]
  have HD := Lib.hid hd
  clear hd
  have hml := H.m_lt
  have hcp := H.cp
  have hll := H.len
  have g1 : decide ((l.length : Int) < 6) = false := decide_eq_false (by omega)
  have g2 : decide ((l.length : Int) < 6 + m) = false := decide_eq_false (by omega)
  have g3 : decide (6 + (m : Int) < 26) = false := decide_eq_false (by omega)
  obtain ⟨s, hsc⟩ : ∃ s, sumC C = s := ⟨_, rfl⟩
  rw [hsc] at hs
  have hv2 : wrap64 (valI ((l.drop 2).take 4)) = (s.toNat : Int) := by rw [wrap64_small ((H.by_.drop 2).take 4) (by rw [H.four]; decide), hs]
  have g4 : ((s.toNat : Int) != (s.toNat : Int)) = false := by simp
  have hl18 : ((C.drop 18).take 2).length = 2 := by simp; omega
  have hvh := valI_lt ((C.drop 18).take 2) ((H.cby.drop 18).take 2)
  rw [hl18] at hvh
  have hnh : wrap64 (valI ((C.drop 18).take 2)) = h := by rw [wrap64_id hvh.1 (by omega)]; omega
  have hh2 : h < 65536 := by omega
  obtain ⟨i0, hi0, hz0, hz1, hz2⟩ := info_parts info5
  obtain ⟨o20, hrun, ho1, ho2⟩ := slice_from (P := Try.prog) 27 5 Try.underlying27 hi0 hz1 b (off + 6) m (cap - 6) 20 (by omega) (by omega)
  have HS := Lib.hid hsc
  have HV := Lib.hid hv2
  have HN := Lib.hid hnh
  have HCL := Lib.hid hcl
  have g5 : decide (((m - 20 : Nat) : Int) < (h : Int)) = true := decide_eq_true (by omega)
  clear hs hsc hv2 hvh hh hnh hcl ho1 ho2 hi0 hz0 hz1 hz2
  go_enter Try.func18, Try.ntmps18
  go_wp2_with (first
    | (go_at_call 20; (with_reducible refine (number_as (l.take 2) 2 m _ _ _ ((H.rd.alloc _).take 2) H.two (H.by_.take 2) (by decide) H.num).mono ?_); rintro e w' ⟨rfl, rfl⟩)
    | (go_at_call 20; (with_reducible refine (number_as ((l.drop 2).take 4) 4 s.toNat _ _ _ ((H.rd.alloc _).drop 2 |>.take 4) H.four ((H.by_.drop 2).take 4) (by decide) HV.out).mono ?_); rintro e w' ⟨rfl, rfl⟩)
    | (go_at_call 20; (with_reducible refine (number_as ((C.drop 18).take 2) 2 h _ _ _ ((H.crd.alloc _).drop 18 |>.take 2) hl18 ((H.cby.drop 18).take 2) (by decide) HN.out).mono ?_); rintro e w' ⟨rfl, rfl⟩)
    | (go_at_call 14; (with_reducible refine (sum_as C m s _ _ _ (H.crd.alloc _) HCL.out H.cby (by omega) HS.out).mono ?_); rintro e w' ⟨rfl, rfl⟩))
  all_goals exact bodyPost_ret (v := .tuple #[.agg #[.int .i64 0, .int .i64 0, .string ByteArray.empty, .string ByteArray.empty, .int .i64 0, .int .i64 0], .int .i64 0, .bool false]) (by simp [results, Try.results18, go_sem]; rfl) rfl ⟨decP_none HD.out, (Below.refl _ _).alloc (Nat.le_refl _) _⟩

def zeroCs : Array Value := #[.int .i64 0, .int .i64 0, .string ByteArray.empty, .string ByteArray.empty, .int .i64 0, .int .i64 0]

set_option maxHeartbeats 2000000 in
theorem decode_end (l : List Int) (b off : Nat) (cap : Nat) (w : World) (m : Nat) (C : List Int) (H : Head l b off cap w m C) (hs : valI ((l.drop 2).take 4) = (sumC C).toNat) (h : Nat) (hh : (valI ((C.drop 18).take 2)).toNat = h) (hok : 20 + h ≤ m) :
    Calls Try.prog 18 #[.slice (some ⟨b, off, none⟩) l.length cap] w fun e w' => DecP l e ∧ Below w.heap.size w w' := by
  have hcl := H.clen
  have hge := H.ge
  have hle := H.le
  have hml := H.m_lt
  have hcp := H.cp
  have hll := H.len
  have g1 : decide ((l.length : Int) < 6) = false := decide_eq_false (by omega)
  have g2 : decide ((l.length : Int) < 6 + m) = false := decide_eq_false (by omega)
  have g3 : decide (6 + (m : Int) < 26) = false := decide_eq_false (by omega)
  obtain ⟨s, hsc⟩ : ∃ s, sumC C = s := ⟨_, rfl⟩
  rw [hsc] at hs
  have hv2 : wrap64 (valI ((l.drop 2).take 4)) = (s.toNat : Int) := by rw [wrap64_small ((H.by_.drop 2).take 4) (by rw [H.four]; decide), hs]
  have g4 : ((s.toNat : Int) != (s.toNat : Int)) = false := by simp
  have hl18 : ((C.drop 18).take 2).length = 2 := by simp; omega
  have hvh := valI_lt ((C.drop 18).take 2) ((H.cby.drop 18).take 2)
  rw [hl18] at hvh
  have hnh : wrap64 (valI ((C.drop 18).take 2)) = h := by rw [wrap64_id hvh.1 (by omega)]; omega
  have hh2 : h < 65536 := by omega
  have hlI : ((C.drop 2).take 8).length = 8 := by simp; omega
  have hlU : ((C.drop 10).take 8).length = 8 := by simp; omega
  obtain ⟨vI, hvI⟩ : ∃ v, wrap64 (valI ((C.drop 2).take 8)) = v := ⟨_, rfl⟩
  obtain ⟨vU, hvU⟩ : ∃ v, wrap64 (valI ((C.drop 10).take 8)) = v := ⟨_, rfl⟩
  obtain ⟨c0, hc0⟩ : ∃ c, C[0]? = some c := ⟨_, List.getElem?_eq_getElem (by omega)⟩
  obtain ⟨c1, hc1⟩ : ∃ c, C[1]? = some c := ⟨_, List.getElem?_eq_getElem (by omega)⟩
  obtain ⟨hst, hhst⟩ : ∃ x, strL ((C.drop 20).take h) = x := ⟨_, rfl⟩
  obtain ⟨pth, hpth⟩ : ∃ x, strL ((C.drop 20).drop h) = x := ⟨_, rfl⟩
  have b0 := H.cby c0 (List.mem_of_getElem? hc0)
  have b1 := H.cby c1 (List.mem_of_getElem? hc1)
  obtain ⟨r, hr⟩ : ∃ r : Rc, ⟨c0, vI, hst, pth, c1, vU⟩ = r := ⟨_, rfl⟩
  have hd : decR l = if soundR r then some (r, 6 + m) else none := by
    unfold decR
    rw [if_neg (by omega), if_neg (by rw [H.hm]; omega), if_neg (by rw [H.hm, H.hC, hsc]; exact fun e => e hs)]
    simp only [H.hm, H.hC, hh]
    rw [if_neg (by simp; omega), hvI, hvU, hhst, hpth, List.getD_eq_getElem?_getD, List.getD_eq_getElem?_getD, hc0, hc1]
    simp only [Option.getD_some, hr]
  have HS := Lib.hid hsc
  have HV := Lib.hid hv2
  have HN := Lib.hid hnh
  have HCL := Lib.hid hcl
  have HD := Lib.hid hd
  have HI := Lib.hid hvI
  have HU := Lib.hid hvU
  have HC0 := Lib.hid hc0
  have HC1 := Lib.hid hc1
  have HH := Lib.hid hhst
  have HP := Lib.hid hpth
  have HR := Lib.hid hr
  have g5 : decide (((m - 20 : Nat) : Int) < (h : Int)) = false := decide_eq_false (by omega)
  clear hs hsc hv2 hvh hh hnh hcl hd hvI hvU hc0 hc1 hhst hpth hr
  go_enter Try.func18, Try.ntmps18
  go_upto_region 0 with fail
  go_cut [2, 3, 4] (fun v2 v3 v4 wx => v2 = .pointer (some ⟨w.heap.size, 0, none⟩) ∧ v3 = .int .i64 0 ∧ v4 = .bool false ∧ Hid (Box wx w.heap.size zeroCs 25) ∧ Hid (Below w.heap.size w wx))
  case first =>
    go_wp2_with fail
    go_meet
    exact ⟨rfl, rfl, rfl, Lib.hid (Box.new _ _ _), Lib.hid ((Below.refl _ _).alloc (Nat.le_refl _) _)⟩
  case rest =>
  obtain ⟨rfl, rfl, rfl, HBX, HBL⟩ := hcut
  have hbl := HBL.out.size
  have hbx := HBX.out.lt
  have HRW := Lib.hid (H.rd.later HBL.out)
  have HCW := Lib.hid (H.crd.later HBL.out)
  obtain ⟨T, hT1, hT2⟩ : ∃ T, (cap - 6 = 20 → off + 6 = T) ∧ (¬ cap - 6 = 20 → off + 6 + 20 = T) := ⟨if cap - 6 = 20 then off + 6 else off + 6 + 20, fun h => (if_pos h).symm, fun h => (if_neg h).symm⟩
  have HCT : Hid (∀ w' : World, RdB w' (some ⟨b, off + 6, none⟩) C → RdB w' (some ⟨b, T, none⟩) (C.drop 20)) := Lib.hid (fun w' hr => by
    by_cases hq : cap - 6 = 20
    · exact Or.inl (List.drop_eq_nil_of_le (by rw [HCL.out]; omega))
    · rw [← hT2 hq]
      exact hr.drop 20)
  obtain ⟨i0, hi0, hz0, hz1, hz2⟩ := info_parts info5
  obtain ⟨U, hU, hU1, _⟩ := slice_from (P := Try.prog) 27 5 Try.underlying27 hi0 hz1 b T (m - 20) (cap - 6 - 20) h (by omega) (by omega)
  clear hi0 hz0 hz1 hz2
  have HX : Hid (∀ w' : World, RdB w' (some ⟨b, off + 6, none⟩) C → (convert 27 9 (.slice (some ⟨b, T, none⟩) h (cap - 6 - 20))).run Try.prog w' = .ok (.string hst) w') := Lib.hid (fun w' hr => by
    have := ((HCT.out _ hr).take h).text (P := Try.prog) 27 5 9 Try.underlying27 Try.underlying5 Try.underlying9 (fun _ => Or.inr ⟨_, _, rfl⟩) (cap - 6 - 20)
    rwa [HH.out, show ((C.drop 20).take h).length = h by rw [List.length_take, List.length_drop, HCL.out]; omega] at this)
  have HY : Hid (∀ w' : World, RdB w' (some ⟨b, off + 6, none⟩) C → (convert 27 9 (.slice (some ⟨b, U, none⟩) (m - 20 - h) (cap - 6 - 20 - h))).run Try.prog w' = .ok (.string pth) w') := Lib.hid (fun w' hr => by
    have := (RdB.rest (HCT.out _ hr) (cap := cap - 6 - 20) (by rw [List.length_drop, HCL.out]; omega) hU1).text (P := Try.prog) 27 5 9 Try.underlying27 Try.underlying5 Try.underlying9 (fun _ => Or.inr ⟨_, _, rfl⟩) (cap - 6 - 20 - h)
    rwa [HP.out, show ((C.drop 20).drop h).length = m - 20 - h by rw [List.length_drop, List.length_drop, HCL.out]] at this)
  clear hU1
  have HUU := Lib.hid hU
  clear hU
  go_upto_region 10 with (first
    | (go_at_call 20; (with_reducible refine (number_as (l.take 2) 2 m _ _ _ (HRW.out.take 2) H.two (H.by_.take 2) (by decide) H.num).mono ?_); rintro e w' ⟨rfl, rfl⟩)
    | (go_at_call 20; (with_reducible refine (number_as ((l.drop 2).take 4) 4 s.toNat _ _ _ (HRW.out.drop 2 |>.take 4) H.four ((H.by_.drop 2).take 4) (by decide) HV.out).mono ?_); rintro e w' ⟨rfl, rfl⟩)
    | (go_at_call 20; (with_reducible refine (number_as ((C.drop 18).take 2) 2 h _ _ _ (HCW.out.drop 18 |>.take 2) hl18 ((H.cby.drop 18).take 2) (by decide) HN.out).mono ?_); rintro e w' ⟨rfl, rfl⟩)
    | (go_at_call 14; (with_reducible refine (sum_as C m s _ _ _ HCW.out HCL.out H.cby (by omega) HS.out).mono ?_); rintro e w' ⟨rfl, rfl⟩))
  go_cut [5, 6, 7, 8] (fun v5 v6 v7 v8 wx => v5 = .int .i64 (6 + m) ∧ v6 = .slice (some ⟨b, off + 6, none⟩) m (cap - 6) ∧ v7 = .slice (some ⟨b, T, none⟩) (m - 20) (cap - 6 - 20) ∧ v8 = .int .i64 h ∧ wx = wc)
  case first =>
    by_cases hq : cap - 6 = 20
    · have hT := hT1 hq
      subst hT
      go_wp2_with (first
        | (go_at_call 20; (with_reducible refine (number_as (l.take 2) 2 m _ _ _ (HRW.out.take 2) H.two (H.by_.take 2) (by decide) H.num).mono ?_); rintro e w' ⟨rfl, rfl⟩)
        | (go_at_call 20; (with_reducible refine (number_as ((l.drop 2).take 4) 4 s.toNat _ _ _ (HRW.out.drop 2 |>.take 4) H.four ((H.by_.drop 2).take 4) (by decide) HV.out).mono ?_); rintro e w' ⟨rfl, rfl⟩)
        | (go_at_call 20; (with_reducible refine (number_as ((C.drop 18).take 2) 2 h _ _ _ (HCW.out.drop 18 |>.take 2) hl18 ((H.cby.drop 18).take 2) (by decide) HN.out).mono ?_); rintro e w' ⟨rfl, rfl⟩)
        | (go_at_call 14; (with_reducible refine (sum_as C m s _ _ _ HCW.out HCL.out H.cby (by omega) HS.out).mono ?_); rintro e w' ⟨rfl, rfl⟩))
      go_meet
      exact ⟨rfl, by first | rfl | simp [hq], by first | rfl | simp [hq], rfl, rfl⟩
    · have hT := hT2 hq
      subst hT
      go_wp2_with (first
        | (go_at_call 20; (with_reducible refine (number_as (l.take 2) 2 m _ _ _ (HRW.out.take 2) H.two (H.by_.take 2) (by decide) H.num).mono ?_); rintro e w' ⟨rfl, rfl⟩)
        | (go_at_call 20; (with_reducible refine (number_as ((l.drop 2).take 4) 4 s.toNat _ _ _ (HRW.out.drop 2 |>.take 4) H.four ((H.by_.drop 2).take 4) (by decide) HV.out).mono ?_); rintro e w' ⟨rfl, rfl⟩)
        | (go_at_call 20; (with_reducible refine (number_as ((C.drop 18).take 2) 2 h _ _ _ (HCW.out.drop 18 |>.take 2) hl18 ((H.cby.drop 18).take 2) (by decide) HN.out).mono ?_); rintro e w' ⟨rfl, rfl⟩)
        | (go_at_call 14; (with_reducible refine (sum_as C m s _ _ _ HCW.out HCL.out H.cby (by omega) HS.out).mono ?_); rintro e w' ⟨rfl, rfl⟩))
      go_meet
      exact ⟨rfl, rfl, rfl, rfl, rfl⟩
  case rest =>
  obtain ⟨rfl, rfl, rfl, rfl, rfl⟩ := hcut
  clear hT1 hT2
  go_wp2_with fail
  have q0 : 0 < m := by omega
  have q1 : 1 < m := by omega
  have q2 : 10 ≤ cap - 6 := by omega
  have q3 : 18 ≤ cap - 6 := by omega
  have q4 : h ≤ cap - 6 - 20 := by omega
  have q5 : h ≤ m - 20 := by omega
  have q6 : ¬ cap - 6 = 2 := by omega
  have q7 : ¬ cap - 6 = 10 := by omega
  have p1 : (1 : Int) < (m : Int) := by omega
  have p2 : (10 : Int) ≤ ((cap - 6 : Nat) : Int) := by omega
  have p3 : (18 : Int) ≤ ((cap - 6 : Nat) : Int) := by omega
  have p4 : (h : Int) ≤ ((cap - 6 - 20 : Nat) : Int) := by omega
  have p5 : (h : Int) ≤ ((m - 20 : Nat) : Int) := by omega
  have hw0 : IntKind.i64.wrap c0 = c0 := by rw [IntKind.wrap_i64]; omega
  have hw1 : IntKind.i64.wrap c1 = c1 := by rw [IntKind.wrap_i64]; omega
  go_cut [9] (fun v9 wx => ∃ g : Nat, v9 = .pointer (some ⟨g, 0, none⟩) ∧ w.heap.size < g ∧ Hid (Box wx g #[.int .i64 c0, .int .i64 vI, .string hst, .string pth, .int .i64 c1, .int .i64 vU] 25) ∧ Hid (Box wx w.heap.size zeroCs 25) ∧ Hid (Below w.heap.size w wx))
  case first =>
    refine wp_region_last 25 (fun w' => RdB w' (some ⟨b, off + 6, none⟩) C ∧ Box w' w.heap.size zeroCs 25 ∧ Below w.heap.size w w') (by kernel_rfl) (⟨HCW.out.drew, HBX.out.drew, HBL.out.drew⟩) (fun hHeld hClosed => ?_)
    refine wpAnyL_take (i := 0) (v := ?_) rfl (by kernel_rfl) (by kernel_rfl) (by kernel_rfl) (by kernel_rfl) (fun _ _ _ h => h) (by kernel_rfl) hClosed (Or.inl ⟨by rfl, ?_⟩) hHeld (fun hClosed => ?_)
    rotate_left
    · intro wv hSw; go_simp; all_goals (with_reducible rfl)
    (try simp only [List.getElem_toArray, List.getElem_cons_zero, put_at, List.set])
    refine wpAnyL_take (i := 1) (v := ?_) rfl (by kernel_rfl) (by kernel_rfl) (by kernel_rfl) (by kernel_rfl) (fun _ _ _ h => h) (by kernel_rfl) hClosed (Or.inl ⟨by rfl, ?_⟩) hHeld (fun hClosed => ?_)
    rotate_left
    · intro wv hSw; go_simp; all_goals (with_reducible rfl)
    (try simp only [List.getElem_toArray, List.getElem_cons_succ, List.getElem_cons_zero, put_at, List.set])
    refine wpAnyL_take (i := 2) (v := ?_) rfl (by kernel_rfl) (by kernel_rfl) (by kernel_rfl) (by kernel_rfl) (fun _ _ _ h => h) (by kernel_rfl) hClosed (Or.inl ⟨by rfl, ?_⟩) hHeld (fun hClosed => ?_)
    rotate_left
    · intro wv hSw; obtain ⟨hrd, _, _⟩ := hSw; have k0 := hrd.cells 0 c0 HC0.out; rw [Nat.add_zero] at k0; have k1 := hrd.cells 1 c1 HC1.out; have hX := HX.out _ hrd; have hY := HY.out _ hrd; go_simp; all_goals (with_reducible rfl)
    (try simp only [List.getElem_toArray, List.getElem_cons_succ, List.getElem_cons_zero, put_at, List.set])
    refine wpAnyL_take (i := 3) (v := ?_) rfl (by kernel_rfl) (by kernel_rfl) (by kernel_rfl) (by kernel_rfl) (fun _ _ _ h => h) (by kernel_rfl) hClosed (Or.inl ⟨by rfl, ?_⟩) hHeld (fun hClosed => ?_)
    rotate_left
    · intro wv hSw; obtain ⟨hrd, _, _⟩ := hSw; have k0 := hrd.cells 0 c0 HC0.out; rw [Nat.add_zero] at k0; have k1 := hrd.cells 1 c1 HC1.out; have hX := HX.out _ hrd; have hY := HY.out _ hrd; go_simp; all_goals (with_reducible rfl)
    (try simp only [List.getElem_toArray, List.getElem_cons_succ, List.getElem_cons_zero, put_at, List.set])
    refine wpAnyL_take (i := 4) (v := ?_) rfl (by kernel_rfl) (by kernel_rfl) (by kernel_rfl) (by kernel_rfl) (fun _ _ _ h => h) (by kernel_rfl) hClosed (Or.inl ⟨by rfl, ?_⟩) hHeld (fun hClosed => ?_)
    rotate_left
    · intro wv hSw; go_simp; all_goals (with_reducible rfl)
    (try simp only [List.getElem_toArray, List.getElem_cons_succ, List.getElem_cons_zero, put_at, List.set])
    refine wpAnyL_take (i := 5) (v := ?_) rfl (by kernel_rfl) (by kernel_rfl) (by kernel_rfl) (by kernel_rfl) (fun _ _ _ h => h) (by kernel_rfl) hClosed (Or.inl ⟨by rfl, ?_⟩) hHeld (fun hClosed => ?_)
    rotate_left
    · intro wv hSw; go_simp; all_goals (with_reducible rfl)
    (try simp only [List.getElem_toArray, List.getElem_cons_succ, List.getElem_cons_zero, put_at, List.set])
    refine wpAnyL_take (i := 7) (v := ?_) rfl (by kernel_rfl) (by kernel_rfl) (by kernel_rfl) (by kernel_rfl) (fun _ _ _ h => h) (by kernel_rfl) hClosed (Or.inl ⟨by rfl, ?_⟩) hHeld (fun hClosed => ?_)
    rotate_left
    · intro wv hSw; go_simp; all_goals (with_reducible rfl)
    (try simp only [List.getElem_toArray, List.getElem_cons_succ, List.getElem_cons_zero, put_at, List.set])
    refine wpAnyL_take (i := 8) (v := ?_) rfl (by kernel_rfl) (by kernel_rfl) (by kernel_rfl) (by kernel_rfl) (fun _ _ _ h => h) (by kernel_rfl) hClosed (Or.inl ⟨by rfl, ?_⟩) hHeld (fun hClosed => ?_)
    rotate_left
    · intro wv hSw; go_simp; all_goals (with_reducible rfl)
    (try simp only [List.getElem_toArray, List.getElem_cons_succ, List.getElem_cons_zero, put_at, List.set])
    refine wpAnyL_take (i := 9) (v := ?_) rfl (by kernel_rfl) (by kernel_rfl) (by kernel_rfl) (by kernel_rfl) (fun _ _ _ h => h) (by kernel_rfl) hClosed (Or.inl ⟨by rfl, ?_⟩) hHeld (fun hClosed => ?_)
    rotate_left
    · intro wv hSw; go_simp; all_goals (with_reducible rfl)
    (try simp only [List.getElem_toArray, List.getElem_cons_succ, List.getElem_cons_zero, put_at, List.set])
    refine wpAnyL_take (i := 10) (v := ?_) rfl (by kernel_rfl) (by kernel_rfl) (by kernel_rfl) (by kernel_rfl) (fun _ _ _ h => h) (by kernel_rfl) hClosed (Or.inl ⟨by rfl, ?_⟩) hHeld (fun hClosed => ?_)
    rotate_left
    · intro wv hSw; obtain ⟨hrd, _, _⟩ := hSw; have k0 := hrd.cells 0 c0 HC0.out; rw [Nat.add_zero] at k0; have k1 := hrd.cells 1 c1 HC1.out; have hX := HX.out _ hrd; have hY := HY.out _ hrd; go_simp; all_goals (with_reducible rfl)
    (try simp only [List.getElem_toArray, List.getElem_cons_succ, List.getElem_cons_zero, put_at, List.set])
    refine wpAnyL_take (i := 11) (v := ?_) rfl (by kernel_rfl) (by kernel_rfl) (by kernel_rfl) (by kernel_rfl) (fun _ _ _ h => h) (by kernel_rfl) hClosed (Or.inl ⟨by rfl, ?_⟩) hHeld (fun hClosed => ?_)
    rotate_left
    · intro wv hSw; go_simp; all_goals (with_reducible rfl)
    (try simp only [List.getElem_toArray, List.getElem_cons_succ, List.getElem_cons_zero, put_at, List.set])
    refine wpAnyL_take (i := 12) (v := ?_) rfl (by kernel_rfl) (by kernel_rfl) (by kernel_rfl) (by kernel_rfl) (fun _ _ _ h => h) (by kernel_rfl) hClosed (Or.inl ⟨by rfl, ?_⟩) hHeld (fun hClosed => ?_)
    rotate_left
    · intro wv hSw; go_simp; all_goals (with_reducible rfl)
    (try simp only [List.getElem_toArray, List.getElem_cons_succ, List.getElem_cons_zero, put_at, List.set])
    refine wpAnyL_take (i := 13) (v := .slice (some ⟨b, U, none⟩) (m - 20 - h) (cap - 6 - 20 - h)) rfl (by kernel_rfl) (by kernel_rfl) (by kernel_rfl) (by kernel_rfl) (fun _ _ _ h => h) (by kernel_rfl) hClosed (Or.inl ⟨by rfl, ?_⟩) hHeld (fun hClosed => ?_)
    · intro wv hSw; exact exec_slice_from (by rfl) (by rfl) (by rfl) HUU.out
    (try simp only [List.getElem_toArray, List.getElem_cons_succ, List.getElem_cons_zero, put_at, List.set])
    refine wpAnyL_take (i := 14) (v := ?_) rfl (by kernel_rfl) (by kernel_rfl) (by kernel_rfl) (by kernel_rfl) (fun _ _ _ h => h) (by kernel_rfl) hClosed (Or.inl ⟨by rfl, ?_⟩) hHeld (fun hClosed => ?_)
    rotate_left
    · intro wv hSw; obtain ⟨hrd, _, _⟩ := hSw; have k0 := hrd.cells 0 c0 HC0.out; rw [Nat.add_zero] at k0; have k1 := hrd.cells 1 c1 HC1.out; have hX := HX.out _ hrd; have hY := HY.out _ hrd; go_simp; all_goals (with_reducible rfl)
    (try simp only [List.getElem_toArray, List.getElem_cons_succ, List.getElem_cons_zero, put_at, List.set])
    refine wpAnyL_take (i := 15) (v := ?_) rfl (by kernel_rfl) (by kernel_rfl) (by kernel_rfl) (by kernel_rfl) (fun _ _ _ h => h) (by kernel_rfl) hClosed (Or.inl ⟨by rfl, ?_⟩) hHeld (fun hClosed => ?_)
    rotate_left
    · intro wv hSw; go_simp; all_goals (with_reducible rfl)
    (try simp only [List.getElem_toArray, List.getElem_cons_succ, List.getElem_cons_zero, put_at, List.set])
    refine wpAnyL_take (i := 16) (v := ?_) rfl (by kernel_rfl) (by kernel_rfl) (by kernel_rfl) (by kernel_rfl) (fun _ _ _ h => h) (by kernel_rfl) hClosed (Or.inl ⟨by rfl, ?_⟩) hHeld (fun hClosed => ?_)
    rotate_left
    · intro wv hSw; go_simp; all_goals (with_reducible rfl)
    (try simp only [List.getElem_toArray, List.getElem_cons_succ, List.getElem_cons_zero, put_at, List.set])
    refine wpAnyL_take (i := 17) (v := ?_) rfl (by kernel_rfl) (by kernel_rfl) (by kernel_rfl) (by kernel_rfl) (fun _ _ _ h => h) (by kernel_rfl) hClosed (Or.inl ⟨by rfl, ?_⟩) hHeld (fun hClosed => ?_)
    rotate_left
    · intro wv hSw; obtain ⟨hrd, _, _⟩ := hSw; have k0 := hrd.cells 0 c0 HC0.out; rw [Nat.add_zero] at k0; have k1 := hrd.cells 1 c1 HC1.out; have hX := HX.out _ hrd; have hY := HY.out _ hrd; go_simp; all_goals (with_reducible rfl)
    (try simp only [List.getElem_toArray, List.getElem_cons_succ, List.getElem_cons_zero, put_at, List.set])
    refine wpAnyL_take (i := 18) (v := ?_) rfl (by kernel_rfl) (by kernel_rfl) (by kernel_rfl) (by kernel_rfl) (fun _ _ _ h => h) (by kernel_rfl) hClosed (Or.inl ⟨by rfl, ?_⟩) hHeld (fun hClosed => ?_)
    rotate_left
    · intro wv hSw; obtain ⟨hrd, _, _⟩ := hSw; have k0 := hrd.cells 0 c0 HC0.out; rw [Nat.add_zero] at k0; have k1 := hrd.cells 1 c1 HC1.out; have hX := HX.out _ hrd; have hY := HY.out _ hrd; go_simp; all_goals (with_reducible rfl)
    (try simp only [List.getElem_toArray, List.getElem_cons_succ, List.getElem_cons_zero, put_at, List.set])
    refine wpAnyL_take (i := 19) (v := ?_) rfl (by kernel_rfl) (by kernel_rfl) (by kernel_rfl) (by kernel_rfl) (fun _ _ _ h => h) (by kernel_rfl) hClosed (Or.inl ⟨by rfl, ?_⟩) hHeld (fun hClosed => ?_)
    rotate_left
    · intro wv hSw; go_simp; all_goals (with_reducible rfl)
    (try simp only [List.getElem_toArray, List.getElem_cons_succ, List.getElem_cons_zero, put_at, List.set])
    refine wpAnyL_take (i := 20) (v := ?_) rfl (by kernel_rfl) (by kernel_rfl) (by kernel_rfl) (by kernel_rfl) (fun _ _ _ h => h) (by kernel_rfl) hClosed (Or.inl ⟨by rfl, ?_⟩) hHeld (fun hClosed => ?_)
    rotate_left
    · intro wv hSw; go_simp; all_goals (with_reducible rfl)
    (try simp only [List.getElem_toArray, List.getElem_cons_succ, List.getElem_cons_zero, put_at, List.set])
    refine wpAnyL_two (i := 6) (j := 24) rfl rfl (by kernel_rfl) (by kernel_rfl) (by kernel_rfl) hClosed (fun KK hK => ?_) (fun KK hK => ?_)
    · go_simp
      with_reducible refine (number_as ((C.drop 2).take 8) 8 vI _ _ _ (hHeld.1.drop 2 |>.take 8) hlI ((H.cby.drop 2).take 8) (by decide) HI.out).mono ?_
      rintro e w' ⟨rfl, rfl⟩
      go_wp2_with fail
      refine hK.out _ _ ?_ (fun hClosed hHeld => ?_)
      · exact hHeld
      clear hK KK
      (first | simp only [List.getElem_toArray, List.getElem_cons_succ, List.getElem_cons_zero, put_at, List.set] | (try simp only [put_at, List.set]))
      refine wpAnyL_two (i := 21) (j := 24) rfl rfl (by kernel_rfl) (by kernel_rfl) (by kernel_rfl) hClosed (fun KK hK => ?_) (fun KK hK => ?_)
      · go_simp
        with_reducible refine (number_as ((C.drop 10).take 8) 8 vU _ _ _ (hHeld.1.drop 10 |>.take 8) hlU ((H.cby.drop 10).take 8) (by decide) HU.out).mono ?_
        rintro e w' ⟨rfl, rfl⟩
        go_wp2_with fail
        refine hK.out _ _ ?_ (fun hClosed hHeld => ?_)
        · exact hHeld
        clear hK KK
        (first | simp only [List.getElem_toArray, List.getElem_cons_succ, List.getElem_cons_zero, put_at, List.set] | (try simp only [put_at, List.set]))
        refine wpAnyL_take (i := 22) (v := ?_) rfl (by kernel_rfl) (by kernel_rfl) (by kernel_rfl) (by kernel_rfl) (fun _ _ _ h => h) (by kernel_rfl) hClosed (Or.inl ⟨by rfl, ?_⟩) hHeld (fun hClosed => ?_)
        rotate_left
        · intro wv hSw; go_simp; all_goals (with_reducible rfl)
        (try simp only [List.getElem_toArray, List.getElem_cons_succ, List.getElem_cons_zero, put_at, List.set])
        refine wpAnyL_take (i := 23) (v := ?_) rfl (by kernel_rfl) (by kernel_rfl) (by kernel_rfl) (by kernel_rfl) (fun _ _ _ h => h) (by kernel_rfl) hClosed (Or.inl ⟨by rfl, ?_⟩) hHeld (fun hClosed => ?_)
        rotate_left
        · intro wv hSw; go_simp; all_goals (with_reducible rfl)
        (try simp only [List.getElem_toArray, List.getElem_cons_succ, List.getElem_cons_zero, put_at, List.set])
        refine wpAnyL_one (i := 24) rfl (by kernel_rfl) (by kernel_rfl) hClosed (fun KK hK => ?_)
        have hsz := hHeld.2.1.lt
        have hbz := hHeld.2.2.size
        go_simp
        refine hK.out _ _ ?_ (fun hClosed hHeld => ?_)
        · exact ⟨hHeld.1.alloc _, hHeld.2.1.alloc _, hHeld.2.2.alloc hHeld.2.2.size _⟩
        clear hK KK
        (first | simp only [List.getElem_toArray, List.getElem_cons_succ, List.getElem_cons_zero, put_at, List.set] | (try simp only [put_at, List.set]))
        refine wpAnyL_last rfl (by kernel_rfl) (by kernel_rfl) (fun KK hK => ?_)
        go_simp
        refine hK.out _ _ ?_
        (try simp only [put_at, List.set])
        go_wp2_with fail
        go_meet
        exact ⟨wc.heap.size, rfl, hbx, Lib.hid (Box.new wc _ _).drew, Lib.hid (HBX.out.alloc _).drew, Lib.hid (HBL.out.alloc hbl _).drew⟩
      · have hsz := hHeld.2.1.lt
        have hbz := hHeld.2.2.size
        go_simp
        refine hK.out _ _ ?_ (fun hClosed hHeld => ?_)
        · exact ⟨hHeld.1.alloc _, hHeld.2.1.alloc _, hHeld.2.2.alloc hHeld.2.2.size _⟩
        clear hK KK
        (first | simp only [List.getElem_toArray, List.getElem_cons_succ, List.getElem_cons_zero, put_at, List.set] | (try simp only [put_at, List.set]))
        refine wpAnyL_one (i := 21) rfl (by kernel_rfl) (by kernel_rfl) hClosed (fun KK hK => ?_)
        go_simp
        with_reducible refine (number_as ((C.drop 10).take 8) 8 vU _ _ _ (hHeld.1.drop 10 |>.take 8) hlU ((H.cby.drop 10).take 8) (by decide) HU.out).mono ?_
        rintro e w' ⟨rfl, rfl⟩
        go_wp2_with fail
        refine hK.out _ _ ?_ (fun hClosed hHeld => ?_)
        · exact hHeld
        clear hK KK
        (first | simp only [List.getElem_toArray, List.getElem_cons_succ, List.getElem_cons_zero, put_at, List.set] | (try simp only [put_at, List.set]))
        refine wpAnyL_take (i := 22) (v := ?_) rfl (by kernel_rfl) (by kernel_rfl) (by kernel_rfl) (by kernel_rfl) (fun _ _ _ h => h) (by kernel_rfl) hClosed (Or.inl ⟨by rfl, ?_⟩) hHeld (fun hClosed => ?_)
        rotate_left
        · intro wv hSw; go_simp; all_goals (with_reducible rfl)
        (try simp only [List.getElem_toArray, List.getElem_cons_succ, List.getElem_cons_zero, put_at, List.set])
        refine wpAnyL_take (i := 23) (v := ?_) rfl (by kernel_rfl) (by kernel_rfl) (by kernel_rfl) (by kernel_rfl) (fun _ _ _ h => h) (by kernel_rfl) hClosed (Or.inl ⟨by rfl, ?_⟩) hHeld (fun hClosed => ?_)
        rotate_left
        · intro wv hSw; go_simp; all_goals (with_reducible rfl)
        (try simp only [List.getElem_toArray, List.getElem_cons_succ, List.getElem_cons_zero, put_at, List.set])
        refine wpAnyL_last rfl (by kernel_rfl) (by kernel_rfl) (fun KK hK => ?_)
        go_simp
        refine hK.out _ _ ?_
        (try simp only [put_at, List.set])
        go_wp2_with fail
        go_meet
        exact ⟨wc.heap.size, rfl, hbx, Lib.hid (Box.new wc _ _).drew, Lib.hid (HBX.out.alloc _).drew, Lib.hid (HBL.out.alloc hbl _).drew⟩
    · have hsz := hHeld.2.1.lt
      have hbz := hHeld.2.2.size
      go_simp
      refine hK.out _ _ ?_ (fun hClosed hHeld => ?_)
      · exact ⟨hHeld.1.alloc _, hHeld.2.1.alloc _, hHeld.2.2.alloc hHeld.2.2.size _⟩
      clear hK KK
      (first | simp only [List.getElem_toArray, List.getElem_cons_succ, List.getElem_cons_zero, put_at, List.set] | (try simp only [put_at, List.set]))
      refine wpAnyL_one (i := 6) rfl (by kernel_rfl) (by kernel_rfl) hClosed (fun KK hK => ?_)
      go_simp
      with_reducible refine (number_as ((C.drop 2).take 8) 8 vI _ _ _ (hHeld.1.drop 2 |>.take 8) hlI ((H.cby.drop 2).take 8) (by decide) HI.out).mono ?_
      rintro e w' ⟨rfl, rfl⟩
      go_wp2_with fail
      refine hK.out _ _ ?_ (fun hClosed hHeld => ?_)
      · exact hHeld
      clear hK KK
      (first | simp only [List.getElem_toArray, List.getElem_cons_succ, List.getElem_cons_zero, put_at, List.set] | (try simp only [put_at, List.set]))
      refine wpAnyL_one (i := 21) rfl (by kernel_rfl) (by kernel_rfl) hClosed (fun KK hK => ?_)
      go_simp
      with_reducible refine (number_as ((C.drop 10).take 8) 8 vU _ _ _ (hHeld.1.drop 10 |>.take 8) hlU ((H.cby.drop 10).take 8) (by decide) HU.out).mono ?_
      rintro e w' ⟨rfl, rfl⟩
      go_wp2_with fail
      refine hK.out _ _ ?_ (fun hClosed hHeld => ?_)
      · exact hHeld
      clear hK KK
      (first | simp only [List.getElem_toArray, List.getElem_cons_succ, List.getElem_cons_zero, put_at, List.set] | (try simp only [put_at, List.set]))
      refine wpAnyL_take (i := 22) (v := ?_) rfl (by kernel_rfl) (by kernel_rfl) (by kernel_rfl) (by kernel_rfl) (fun _ _ _ h => h) (by kernel_rfl) hClosed (Or.inl ⟨by rfl, ?_⟩) hHeld (fun hClosed => ?_)
      rotate_left
      · intro wv hSw; go_simp; all_goals (with_reducible rfl)
      (try simp only [List.getElem_toArray, List.getElem_cons_succ, List.getElem_cons_zero, put_at, List.set])
      refine wpAnyL_take (i := 23) (v := ?_) rfl (by kernel_rfl) (by kernel_rfl) (by kernel_rfl) (by kernel_rfl) (fun _ _ _ h => h) (by kernel_rfl) hClosed (Or.inl ⟨by rfl, ?_⟩) hHeld (fun hClosed => ?_)
      rotate_left
      · intro wv hSw; go_simp; all_goals (with_reducible rfl)
      (try simp only [List.getElem_toArray, List.getElem_cons_succ, List.getElem_cons_zero, put_at, List.set])
      refine wpAnyL_last rfl (by kernel_rfl) (by kernel_rfl) (fun KK hK => ?_)
      go_simp
      refine hK.out _ _ ?_
      (try simp only [put_at, List.set])
      go_wp2_with fail
      go_meet
      exact ⟨wc.heap.size, rfl, hbx, Lib.hid (Box.new wc _ _).drew, Lib.hid (HBX.out.alloc _).drew, Lib.hid (HBL.out.alloc hbl _).drew⟩
  case rest =>
    clear HBX HBL HRW HCW hbl hbx hw0 hw1
    obtain ⟨g, rfl, hg, HBG, HBX, HBL⟩ := hcut
    have e := HR.out
    subst e
    clear HR
    have lz := HBX.out.lt
    by_cases hsd : soundR ⟨c0, vI, hst, pth, c1, vU⟩
    · go_wp2_with fail
      refine wp_region_last 6 (fun w' => Box w' g #[.int .i64 c0, .int .i64 vI, .string hst, .string pth, .int .i64 c1, .int .i64 vU] 25 ∧ (∃ cs : Array Value, cs.size = 6 ∧ Box w' w.heap.size cs 25) ∧ Below w.heap.size w w') (by kernel_rfl) (⟨HBG.out.drew, ⟨_, rfl, HBX.out.drew⟩, HBL.out.drew⟩) (fun hHeld hClosed => ?_)
      refine wpAnyL_take (i := 0) (v := .agg #[.int .i64 c0, .int .i64 vI, .string hst, .string pth, .int .i64 c1, .int .i64 vU]) rfl (by kernel_rfl) (by kernel_rfl) (by kernel_rfl) (by kernel_rfl) (fun _ _ _ h => h) (by kernel_rfl) hClosed (Or.inl ⟨by rfl, ?_⟩) hHeld (fun hClosed => ?_)
      · intro wv hSw; exact exec_load_box (by rfl) (by rfl) hSw.1 Try.underlying25 rfl (by kernel_rfl)
      (try simp only [List.getElem_toArray, List.getElem_cons_zero, put_at, List.set])
      refine wpAnyL_take (i := 1) (v := ?_) rfl (by kernel_rfl) (by kernel_rfl) (by kernel_rfl) (by kernel_rfl) (fun _ _ _ h => h) (by kernel_rfl) hClosed (Or.inl ⟨by rfl, ?_⟩) hHeld (fun hClosed => ?_)
      rotate_left
      · intro wv hSw; go_simp; all_goals (with_reducible rfl)
      (try simp only [List.getElem_toArray, List.getElem_cons_succ, List.getElem_cons_zero, put_at, List.set])
      refine wpAnyL_take (i := 2) (v := .agg #[.int .i64 c0, .int .i64 vI, .string hst, .string pth, .int .i64 c1, .int .i64 vU]) rfl (by kernel_rfl) (by kernel_rfl) (by kernel_rfl) (by kernel_rfl) (fun _ _ _ h => h) (by kernel_rfl) hClosed (Or.inl ⟨by rfl, ?_⟩) hHeld (fun hClosed => ?_)
      · intro wv hSw; exact exec_load_box (by rfl) (by rfl) hSw.1 Try.underlying25 rfl (by kernel_rfl)
      (try simp only [List.getElem_toArray, List.getElem_cons_succ, List.getElem_cons_zero, put_at, List.set])
      refine wpAnyL_one (i := 3) rfl (by kernel_rfl) (by kernel_rfl) hClosed (fun KK hK => ?_)
      go_simp
      refine (sound_yes ⟨c0, vI, hst, pth, c1, vU⟩ _ hsd).mono ?_
      rintro e w2 ⟨rfl, hb2⟩
      go_wp2_with fail
      refine hK.out _ _ ?_ (fun hClosed hHeld => ?_)
      · exact ⟨hHeld.1.later hb2, ⟨_, hHeld.2.1.choose_spec.1, hHeld.2.1.choose_spec.2.later hb2⟩, hHeld.2.2.trans (hb2.mono hHeld.2.2.size)⟩
      clear hK KK
      (first | simp only [List.getElem_toArray, List.getElem_cons_succ, List.getElem_cons_zero, put_at, List.set] | (try simp only [put_at, List.set]))
      refine wpAnyL_one (i := 4) rfl (by kernel_rfl) (by kernel_rfl) hClosed (fun KK hK => ?_)
      obtain ⟨cs, hcs, hbz⟩ := hHeld.2.1
      refine step_store_row rfl (ty := 25) rfl (cells := #[.int .i64 c0, .int .i64 vI, .string hst, .string pth, .int .i64 c1, .int .i64 vU]) rfl rfl hbz (by rw [hcs]; rfl) (by kernel_rfl) (by simp [Value.oneCell']) ?_
      refine hK.out _ _ ?_ (fun hClosed hHeld => ?_)
      · exact ⟨hHeld.1.otherRow (by omega) _, ⟨_, rfl, hbz.setRow #[.int .i64 c0, .int .i64 vI, .string hst, .string pth, .int .i64 c1, .int .i64 vU]⟩, below_row hHeld.2.2 (Nat.le_refl _) _⟩
      clear hK KK
      (first | simp only [List.getElem_toArray, List.getElem_cons_succ, List.getElem_cons_zero, put_at, List.set] | (try simp only [put_at, List.set]))
      have hfin := hbz.setRow #[.int .i64 c0, .int .i64 vI, .string hst, .string pth, .int .i64 c1, .int .i64 vU]
      clear hbz hcs
      refine wpAnyL_take (i := 5) (v := ?_) rfl (by kernel_rfl) (by kernel_rfl) (by kernel_rfl) (by kernel_rfl) (fun _ _ _ h => h) (by kernel_rfl) hClosed (Or.inl ⟨by rfl, ?_⟩) hHeld (fun hClosed => ?_)
      rotate_left
      · intro wv hSw; go_simp; all_goals (with_reducible rfl)
      (try simp only [List.getElem_toArray, List.getElem_cons_succ, List.getElem_cons_zero, put_at, List.set])
      refine wpAnyL_last rfl (by kernel_rfl) (by kernel_rfl) (fun KK hK => ?_)
      go_simp
      refine hK.out _ _ ?_
      (try simp only [put_at, List.set])
      have cz := hfin.cell
      go_wp2_with fail
      exact bodyPost_ret (v := .tuple #[.agg #[.int .i64 c0, .int .i64 vI, .string hst, .string pth, .int .i64 c1, .int .i64 vU], .int .i64 (6 + m), .bool true]) (by simp [results, Try.results18, go_sem, cz]) rfl ⟨⟨⟨c0, vI, hst, pth, c1, vU⟩, 6 + m, true, rfl, Or.inl ⟨rfl, 6 + m, by simp, by rw [HD.out, if_pos hsd]⟩⟩, hHeld.2.2⟩
    · go_wp2_with fail
      refine wp_region_last 6 (fun w' => Box w' g #[.int .i64 c0, .int .i64 vI, .string hst, .string pth, .int .i64 c1, .int .i64 vU] 25 ∧ (∃ cs : Array Value, cs.size = 6 ∧ Box w' w.heap.size cs 25) ∧ Below w.heap.size w w') (by kernel_rfl) (⟨HBG.out.drew, ⟨_, rfl, HBX.out.drew⟩, HBL.out.drew⟩) (fun hHeld hClosed => ?_)
      refine wpAnyL_take (i := 0) (v := .agg #[.int .i64 c0, .int .i64 vI, .string hst, .string pth, .int .i64 c1, .int .i64 vU]) rfl (by kernel_rfl) (by kernel_rfl) (by kernel_rfl) (by kernel_rfl) (fun _ _ _ h => h) (by kernel_rfl) hClosed (Or.inl ⟨by rfl, ?_⟩) hHeld (fun hClosed => ?_)
      · intro wv hSw; exact exec_load_box (by rfl) (by rfl) hSw.1 Try.underlying25 rfl (by kernel_rfl)
      (try simp only [List.getElem_toArray, List.getElem_cons_zero, put_at, List.set])
      refine wpAnyL_take (i := 1) (v := ?_) rfl (by kernel_rfl) (by kernel_rfl) (by kernel_rfl) (by kernel_rfl) (fun _ _ _ h => h) (by kernel_rfl) hClosed (Or.inl ⟨by rfl, ?_⟩) hHeld (fun hClosed => ?_)
      rotate_left
      · intro wv hSw; go_simp; all_goals (with_reducible rfl)
      (try simp only [List.getElem_toArray, List.getElem_cons_succ, List.getElem_cons_zero, put_at, List.set])
      refine wpAnyL_take (i := 2) (v := .agg #[.int .i64 c0, .int .i64 vI, .string hst, .string pth, .int .i64 c1, .int .i64 vU]) rfl (by kernel_rfl) (by kernel_rfl) (by kernel_rfl) (by kernel_rfl) (fun _ _ _ h => h) (by kernel_rfl) hClosed (Or.inl ⟨by rfl, ?_⟩) hHeld (fun hClosed => ?_)
      · intro wv hSw; exact exec_load_box (by rfl) (by rfl) hSw.1 Try.underlying25 rfl (by kernel_rfl)
      (try simp only [List.getElem_toArray, List.getElem_cons_succ, List.getElem_cons_zero, put_at, List.set])
      refine wpAnyL_one (i := 3) rfl (by kernel_rfl) (by kernel_rfl) hClosed (fun KK hK => ?_)
      go_simp
      refine (sound_no ⟨c0, vI, hst, pth, c1, vU⟩ _ hsd).mono ?_
      rintro e w2 ⟨rfl, hb2⟩
      go_wp2_with fail
      refine hK.out _ _ ?_ (fun hClosed hHeld => ?_)
      · exact ⟨hHeld.1.later hb2, ⟨_, hHeld.2.1.choose_spec.1, hHeld.2.1.choose_spec.2.later hb2⟩, hHeld.2.2.trans (hb2.mono hHeld.2.2.size)⟩
      clear hK KK
      (first | simp only [List.getElem_toArray, List.getElem_cons_succ, List.getElem_cons_zero, put_at, List.set] | (try simp only [put_at, List.set]))
      refine wpAnyL_one (i := 4) rfl (by kernel_rfl) (by kernel_rfl) hClosed (fun KK hK => ?_)
      obtain ⟨cs, hcs, hbz⟩ := hHeld.2.1
      refine step_store_row rfl (ty := 25) rfl (cells := #[.int .i64 c0, .int .i64 vI, .string hst, .string pth, .int .i64 c1, .int .i64 vU]) rfl rfl hbz (by rw [hcs]; rfl) (by kernel_rfl) (by simp [Value.oneCell']) ?_
      refine hK.out _ _ ?_ (fun hClosed hHeld => ?_)
      · exact ⟨hHeld.1.otherRow (by omega) _, ⟨_, rfl, hbz.setRow #[.int .i64 c0, .int .i64 vI, .string hst, .string pth, .int .i64 c1, .int .i64 vU]⟩, below_row hHeld.2.2 (Nat.le_refl _) _⟩
      clear hK KK
      (first | simp only [List.getElem_toArray, List.getElem_cons_succ, List.getElem_cons_zero, put_at, List.set] | (try simp only [put_at, List.set]))
      have hfin := hbz.setRow #[.int .i64 c0, .int .i64 vI, .string hst, .string pth, .int .i64 c1, .int .i64 vU]
      clear hbz hcs
      refine wpAnyL_take (i := 5) (v := ?_) rfl (by kernel_rfl) (by kernel_rfl) (by kernel_rfl) (by kernel_rfl) (fun _ _ _ h => h) (by kernel_rfl) hClosed (Or.inl ⟨by rfl, ?_⟩) hHeld (fun hClosed => ?_)
      rotate_left
      · intro wv hSw; go_simp; all_goals (with_reducible rfl)
      (try simp only [List.getElem_toArray, List.getElem_cons_succ, List.getElem_cons_zero, put_at, List.set])
      refine wpAnyL_last rfl (by kernel_rfl) (by kernel_rfl) (fun KK hK => ?_)
      go_simp
      refine hK.out _ _ ?_
      (try simp only [put_at, List.set])
      have cz := hfin.cell
      go_wp2_with fail
      exact bodyPost_ret (v := .tuple #[.agg #[.int .i64 c0, .int .i64 vI, .string hst, .string pth, .int .i64 c1, .int .i64 vU], .int .i64 (6 + m), .bool false]) (by simp [results, Try.results18, go_sem, cz]) rfl ⟨⟨⟨c0, vI, hst, pth, c1, vU⟩, 6 + m, false, rfl, Or.inr ⟨rfl, by rw [HD.out, if_neg hsd]⟩⟩, hHeld.2.2⟩
end Go.Proofs.Ytndgpdpabjaedaa
