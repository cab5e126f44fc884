/- Package audit: gaps. -/
import Derived.Test.YtelakgbpfnlpiaaAudTr
namespace Go.Proofs.Ytelakgbpfnlpiaa
open Go.RowKit Go.Maps Go.WideMaps

theorem lawK : Keyed Try.prog 9 := string_keyed Try.underlying9
theorem zeroI (w : World) : (zeroValue 3).run Try.prog w = .ok (.int .i64 0) w := by kernel_rfl
def kl (s : ByteArray) : Lit := .string s.data.toList
theorem kl_ne {s t : ByteArray} (h : s.data ≠ t.data) : kl s ≠ kl t := by
  intro e
  apply h
  unfold kl at e
  injection e with e
  exact Array.toList_inj.1 e
def In64 (x : Int) : Prop := -9223372036854775808 ≤ x ∧ x ≤ 9223372036854775807
/-- What an event is as it comes in. -/
def EvOk (e : Ev) : Prop := In64 e.kind ∧ In64 e.time ∧ In64 e.id ∧ e.host.size ≤ maxLen
abbrev Lasts := ByteArray → Option Int
def setL (L : Lasts) (h : ByteArray) (t : Int) : Lasts := fun s => if s.data = h.data then some t else L s
def TellsL (D : DataW Unit) (L : Lasts) : Prop := ∀ s, Maps.has D (kl s) = (L s).isSome ∧ D.atKey (kl s) (.lit (.int .i64 0)) = .lit (.int .i64 ((L s).getD 0))
theorem TellsL.put {D : DataW Unit} {L : Lasts} (h : TellsL D L) (hm : IsMap D) {s : ByteArray} (hk : WideAt.IsKeyLit (kl s)) (t : Int) : TellsL (D.put (kl s) (.lit (.int .i64 t))) (setL L s t) := by
  intro r
  by_cases e : r.data = s.data
  · have e' : kl r = kl s := by unfold kl; rw [e]
    rw [e', has_put_same hm hk, atKey_put_same hm hk]
    simp [setL, e]
  · rw [has_put_other (kl_ne e), atKey_put_other (kl_ne e)]
    simpa [setL, e] using h r
/-- Were hosts left alone? -/
def gapsL (floor : Int) : Lasts → List Ev → Bool
  | _, [] => true
  | L, e :: r => match L e.host with
    | some t => if subI e.time t < floor then false else gapsL floor (setL L e.host e.time) r
    | none => gapsL floor (setL L e.host e.time) r
theorem drop_at {ts : List Ev} {k : Nat} {e : Ev} (h : ts[k]? = some e) : ts.drop k = e :: ts.drop (k + 1) := by
  obtain ⟨h1, h2⟩ := List.getElem?_eq_some_iff.1 h
  rw [List.drop_eq_getElem_cons h1, h2]

theorem sub_as (a b v : Int) (h : subI a b = v) (w : World) : Calls Try.prog 52 #[.int .i64 a, .int .i64 b] w fun e w' => e = .returned (.int .i64 v) ∧ w = w' := by
  subst h
  exact sub_any a b w
/-- The events' cells. -/
def RdB (w : World) (b off : Nat) (ts : List Ev) : Prop := ∀ i e, ts[i]? = some e → ∀ j v, (evL e)[j]? = some v → w.cell? ⟨b, off + i * 7 + j, none⟩ = some v
theorem RdB.later {w w' : World} {b off : Nat} {ts : List Ev} (h : RdB w b off ts) (hb : Below w.heap.size w w') : RdB w' b off ts := fun i e hi j v hv => by
  have := h i e hi j v hv
  exact (hb.cell (World.block_lt_of_cell? _ _ this)).trans this
theorem RdB.turned {w w' : World} {b off bm n : Nat} {ts : List Ev} {kt : TypeId} {R : Value → Option (DataW Unit × List MemPlace)} {D : DataW Unit} (h : RdB w b off ts) (hm : w.ownsMap Try.prog kt R bm n D) (hg : w.grownBy w' (some bm)) : RdB w' b off ts := fun i e hi j v hv => by
  have h1 := h i e hi j v hv
  have h2 := World.block_lt_of_cell? _ _ h1
  refine (World.cell?_of_block (hg.block b h2 (fun e => ?_))).trans h1
  injection e with e
  subst e
  obtain ⟨es, clock, hb, _⟩ := hm
  simp [World.cell?, hb] at h1
theorem RdB.at {w : World} {b off : Nat} {ts : List Ev} (h : RdB w b off ts) {i : Nat} {e : Ev} (hi : ts[i]? = some e) : w.cell? ⟨b, off + i * 7, none⟩ = some (.int .i64 e.kind) ∧ w.cell? ⟨b, off + i * 7 + 1, none⟩ = some (.int .i64 e.time) ∧ w.cell? ⟨b, off + i * 7 + 2, none⟩ = some (.int .i64 e.id) ∧ w.cell? ⟨b, off + i * 7 + 3, none⟩ = some (.string e.host) ∧ w.cell? ⟨b, off + i * 7 + 4, none⟩ = some (.string e.path) ∧ w.cell? ⟨b, off + i * 7 + 5, none⟩ = some (.int .i64 e.prio) ∧ w.cell? ⟨b, off + i * 7 + 6, none⟩ = some (.int .i64 e.last) :=
  ⟨h i e hi 0 _ rfl, h i e hi 1 _ rfl, h i e hi 2 _ rfl, h i e hi 3 _ rfl, h i e hi 4 _ rfl, h i e hi 5 _ rfl, h i e hi 6 _ rfl⟩
theorem Rd.row {w : World} {a : Option Addr} {es : List Ev} (h : Rd w a es) : ∃ b off, (0 < es.length → a = some ⟨b, off, none⟩) ∧ RdB w b off es := h

set_option maxHeartbeats 1000000 in
theorem gaps_at (es : List Ev) (a : Option Addr) (cap : Nat) (floor : Int) (w : World) (hr : Rd w a es) (hl : es.length < 1000000) (hok : ∀ e, e ∈ es → EvOk e) :
    Calls Try.prog 35 #[.slice a es.length cap, .int .i64 floor] w fun e w' => e = .returned (.bool (gapsL floor (fun _ => none) (es.filter wentE))) ∧ Below w.heap.size w w' := by
  have hmm := @run_makeMap Try.prog
  have HOK := Lib.hid hok
  have HR := Lib.hid hr
  clear hok hr
  go_enter Try.func35, Try.ntmps35
  go_wp2_with fail
  refine (trans_at es a cap _ (HR.out.later ((Below.refl _ _).alloc (Nat.le_refl _) _)) hl).mono ?_
  rintro e w1 ⟨a', cap', rfl, hrd, _, hb⟩
  have hfl : (es.filter wentE).length < 1000000 := by have := List.length_filter_le wentE es; omega
  have HOT : Hid (∀ e, e ∈ es.filter wentE → EvOk e) := Lib.hid (fun e he => HOK.out e (List.mem_filter.1 he).1)
  generalize hts : es.filter wentE = ts at *
  have HTS := Lib.hid hts
  clear hts
  have hm1 : w1.ownsMap Try.prog 9 (plainElem Try.prog 3) w.heap.size 0 (.map [] : DataW Unit) := by
    obtain ⟨es', clock, hb', r⟩ := World.ownsMap_made (H := Unit) w Try.prog 9 (plainElem Try.prog 3)
    exact ⟨es', clock, (hb.block _ (by simp)).trans hb', r⟩
  have HM1 : Hid (∃ D : DataW Unit, w1.ownsMap Try.prog 9 (plainElem Try.prog 3) w.heap.size 0 D ∧ TellsL D (fun _ => none)) := Lib.hid ⟨_, hm1, fun s => ⟨rfl, by rfl⟩⟩
  have HB1 : Hid (Below w.heap.size w w1) := Lib.hid (((Below.refl _ _).alloc (Nat.le_refl _) _).trans (hb.mono (by simp)))
  obtain ⟨b, off, ha, hc⟩ := hrd.row
  have HA := Lib.hid ha
  have HC := Lib.hid hc
  clear ha hc hm1 hb hrd
  go_wp2_with fail
  go_loopw [14] (fun vk wx => ∃ (k : Nat) (L : Lasts), k ≤ ts.length ∧ vk = .int .i64 k ∧ Hid (∃ D : DataW Unit, wx.ownsMap Try.prog 9 (plainElem Try.prog 3) w.heap.size k D ∧ TellsL D L) ∧ Hid (Below w.heap.size w wx) ∧ Hid (RdB wx b off ts) ∧ Hid (gapsL floor (fun _ => none) ts = gapsL floor L (ts.drop k))) (fun vk _ => ts.length - (intOf vk).toNat)
  case atStart => exact ⟨0, fun _ => none, by omega, rfl, HM1, HB1, HC, Lib.hid rfl⟩
  case round =>
    obtain ⟨k, L, hk, rfl, HM, HB, HCR, HG⟩ := hrel
    clear HM1 HB1 HC
    have hbs := HB.out.size
    by_cases hlt : k < ts.length
    · have hd1 : decide ((k : Int) < ts.length) = true := decide_eq_true (by omega)
      have ha := HA.out (by omega)
      subst ha
      obtain ⟨e, he⟩ : ∃ e, ts[k]? = some e := ⟨_, List.getElem?_eq_getElem hlt⟩
      obtain ⟨c0, c1, c2, c3, c4, c5, c6⟩ := HCR.out.at he
      have hok := HOT.out e (List.mem_of_getElem? he)
      have hkey := keyOf_string_mk Try.underlying9 hok.2.2.2
      have HTM := Lib.hid hok.2.1
      have hgd := HG.out
      rw [drop_at he] at hgd
      obtain ⟨D, hown, htl⟩ := HM.out
      obtain ⟨e1, e2⟩ := htl e.host
      have HTL := Lib.hid htl
      clear he hok htl HM HG
      cases hL : L e.host with
      | none =>
        rw [hL] at e1 e2
        have e1 := Lib.hid e1
        have e2 := Lib.hid e2
        have HG2 : Hid (gapsL floor (fun _ => none) ts = gapsL floor (setL L e.host e.time) (ts.drop (k + 1))) := Lib.hid (by rw [hgd, gapsL, hL])
        clear hL hgd
        go_wp2_with (first
          | (at_lookup; refine wpList_lookup_own_ok_int _ rfl _ _ 78 rfl 9 3 .i64 lawK Try.underlying78 Try.underlying3 (zeroI _) w.heap.size _ D rfl (hown.alloc _) _ _ rfl hkey ?_; intro x hat hwc; rw [show Maps.has D (Lit.string e.host.data.toList) = false from e1.out, show x = (0 : Int) from by have := hat.symm.trans e2.out; simpa using this]; clear hat hwc)
          | (at_mapUpdate; refine wpList_mapUpdate_own _ rfl _ _ _ 78 rfl 9 3 lawK Try.underlying78 _ w.heap.size _ D rfl (hown.alloc _) (by unfold maxLen; omega) _ _ _ rfl rfl hkey _ [] (plainElem_int Try.underlying3 (WalkArith.wf_i64 HTM.out)) ?_; intro w2 hown2 hgrow2)
          | go_in)
        have hB2 : Below w.heap.size w w2 := (HB.out.alloc hbs _).grown hgrow2 (by simp; omega) (fun x hx => by cases hx; exact Nat.le_refl _)
        have HB2 := Lib.hid hB2
        have HC2 := Lib.hid ((HCR.out.later ((Below.refl _ _).alloc (Nat.le_refl _) _)).turned (hown.alloc _) hgrow2)
        have HM2 : Hid (∃ D : DataW Unit, w2.ownsMap Try.prog 9 (plainElem Try.prog 3) w.heap.size (k + 1) D ∧ TellsL D (setL L e.host e.time)) := Lib.hid ⟨_, hown2, HTL.out.put hown.isMap (lawK.key hkey) e.time⟩
        go_roundw
        case rel => exact ⟨k + 1, setL L e.host e.time, by omega, by go_num, HM2, HB2, HC2, HG2⟩
        case measure => simp [intOf]; omega
      | some t =>
        rw [hL] at e1 e2
        have e1 := Lib.hid e1
        have e2 := Lib.hid e2
        obtain ⟨v, hv⟩ : ∃ v, subI e.time t = v := ⟨_, rfl⟩
        have HV := Lib.hid hv
        by_cases hvf : v < floor
        · have HG2 : Hid (gapsL floor (fun _ => none) ts = false) := Lib.hid (by rw [hgd, gapsL, hL]; simp only [hv]; rw [if_pos hvf])
          have hd2 : decide (v < floor) = true := decide_eq_true hvf
          clear hL hgd hv
          go_wp2_with (first
            | (at_lookup; refine wpList_lookup_own_ok_int _ rfl _ _ 78 rfl 9 3 .i64 lawK Try.underlying78 Try.underlying3 (zeroI _) w.heap.size _ D rfl (hown.alloc _) _ _ rfl hkey ?_; intro x hat hwc; rw [show Maps.has D (Lit.string e.host.data.toList) = true from e1.out, show x = t from by have := hat.symm.trans e2.out; simpa using this]; clear hat hwc)
            | (go_at_call 52; refine (sub_as _ _ v HV.out _).mono ?_; rintro e w2 ⟨rfl, rfl⟩)
            | go_in)
          exact bodyPost_ret (v := .bool false) (by simp [results, Try.results35, go_sem]) rfl ⟨by rw [HTS.out, HG2.out], HB.out.alloc hbs _⟩
        · have HG2 : Hid (gapsL floor (fun _ => none) ts = gapsL floor (setL L e.host e.time) (ts.drop (k + 1))) := Lib.hid (by rw [hgd, gapsL, hL]; simp only [hv]; rw [if_neg hvf])
          have hd2 : decide (v < floor) = false := decide_eq_false hvf
          clear hL hgd hv
          go_wp2_with (first
            | (at_lookup; refine wpList_lookup_own_ok_int _ rfl _ _ 78 rfl 9 3 .i64 lawK Try.underlying78 Try.underlying3 (zeroI _) w.heap.size _ D rfl (hown.alloc _) _ _ rfl hkey ?_; intro x hat hwc; rw [show Maps.has D (Lit.string e.host.data.toList) = true from e1.out, show x = t from by have := hat.symm.trans e2.out; simpa using this]; clear hat hwc)
            | (go_at_call 52; refine (sub_as _ _ v HV.out _).mono ?_; rintro e w2 ⟨rfl, rfl⟩)
            | (at_mapUpdate; refine wpList_mapUpdate_own _ rfl _ _ _ 78 rfl 9 3 lawK Try.underlying78 _ w.heap.size _ D rfl (hown.alloc _) (by unfold maxLen; omega) _ _ _ rfl rfl hkey _ [] (plainElem_int Try.underlying3 (WalkArith.wf_i64 HTM.out)) ?_; intro w2 hown2 hgrow2)
            | go_in)
          have hB2 : Below w.heap.size w w2 := (HB.out.alloc hbs _).grown hgrow2 (by simp; omega) (fun x hx => by cases hx; exact Nat.le_refl _)
          have HB2 := Lib.hid hB2
          have HC2 := Lib.hid ((HCR.out.later ((Below.refl _ _).alloc (Nat.le_refl _) _)).turned (hown.alloc _) hgrow2)
          have HM2 : Hid (∃ D : DataW Unit, w2.ownsMap Try.prog 9 (plainElem Try.prog 3) w.heap.size (k + 1) D ∧ TellsL D (setL L e.host e.time)) := Lib.hid ⟨_, hown2, HTL.out.put hown.isMap (lawK.key hkey) e.time⟩
          go_roundw
          case rel => exact ⟨k + 1, setL L e.host e.time, by omega, by go_num, HM2, HB2, HC2, HG2⟩
          case measure => simp [intOf]; omega
    · have hd1 : decide ((k : Int) < ts.length) = false := decide_eq_false (by omega)
      have HG2 : Hid (gapsL floor (fun _ => none) ts = true) := Lib.hid (by rw [HG.out, List.drop_eq_nil_of_le (by omega), gapsL])
      go_wp2_with fail
      exact bodyPost_ret (v := .bool true) (by simp [results, Try.results35, go_sem]) rfl ⟨by rw [HTS.out, HG2.out], HB.out⟩
end Go.Proofs.Ytelakgbpfnlpiaa
