/- Package robots: what the picked groups say together. -/
import Derived.Test.YtodlecjbpmggiaaGreatDoorRbTok
import Derived.Deep.Upon
/- Package robots: is there a name in a list that is meant? The library's ContainsFunc walked over any function value that answers by a predicate. -/
namespace Go.Proofs.YtodlecjbpmggiaaGreatDoor
open Go Go.RowKit
set_option linter.unusedVariables false
set_option linter.unusedSimpArgs false
set_option maxRecDepth 10000

/-- A function value that answers by a predicate, in each world that follows w. -/
def Meant (w : World) (g : Nat) (lb : Array Value) (p : List Int → Bool) (ok : List Int → Prop) : Prop :=
  ∀ z W, ok z → Below w.heap.size w W → Calls Tryz.prog g (#[.string (strL z)] ++ lb) W fun e w' => e = .returned (.bool (p z)) ∧ Below W.heap.size W w'
theorem Meant.later {w w2 : World} {g : Nat} {lb : Array Value} {p : List Int → Bool} {ok : List Int → Prop} (h : Meant w g lb p ok) (hb : Below w.heap.size w w2) : Meant w2 g lb p ok :=
  fun z W hz hW => h z W hz (hb.trans (hW.mono hb.size))
set_option maxHeartbeats 2000000 in
theorem rb_index_at (l : List (List Int)) (n : Nat) (hn : l.length = n) (hn2 : n ≤ 9223372036854775807) (a : Option Addr) (c g : Nat) (lb : Array Value) (p : List Int → Bool) (ok : List Int → Prop) (w : World)
    (eg : ∀ args w, (callFunc g args).run Tryz.prog w = .ok (.enter g args) w) (hl : ∀ z ∈ l, ok z) (hm : Meant w g lb p ok) (hc : ∀ k z, l[k]? = some z → ∃ r, a = some ⟨r, 0, none⟩ ∧ w.cell? ⟨r, k, none⟩ = some (.string (strL z))) :
    Calls Tryz.prog 64 #[.slice a n c, .func (.func g) #[] lb] w fun e w' => (∃ i : Int, e = .returned (.int .i64 i) ∧ decide (0 ≤ i) = l.any p) ∧ Below w.heap.size w w' := by
  have HL := Lib.hid hl
  have HM := Lib.hid hm
  have HC := Lib.hid hc
  have HN := Lib.hid hn
  clear hl hm hc hn
  go_enter Tryz.func64, Tryz.ntmps64
  go_wp2
  go_loopw [4, 8] (fun r j wr => ∃ k : Nat, k ≤ n ∧ r = .int .i64 0 ∧ j = .int .i64 (k : Int) ∧ Hid (Below w.heap.size w wr) ∧ Hid (∀ i z, i < k → l[i]? = some z → p z = false)) (fun _ j _ => n - (intOf j).toNat)
  case atStart => exact ⟨0, by omega, rfl, rfl, Lib.hid (Below.refl _ _), Lib.hid (fun i z hi => by omega)⟩
  case round =>
    obtain ⟨k, hk, rfl, rfl, BR, HP⟩ := hrel
    by_cases hlt : k < n
    · have hkd : decide ((k : Int) < (n : Int)) = true := decide_eq_true (by omega)
      obtain ⟨z, hz⟩ : ∃ z, l[k]? = some z := ⟨_, List.getElem?_eq_getElem (by rw [HN.out]; exact hlt)⟩
      obtain ⟨r, hr, c0⟩ := HC.out k z hz
      subst hr
      have cc : wr.cell? ⟨r, k, none⟩ = some (.string (strL z)) := (BR.out.cell (World.block_lt_of_cell? _ _ c0)).trans c0
      have M := Lib.hid (HM.out z wr (HL.out z (List.mem_of_getElem? hz)) BR.out)
      have hx0 : (0 : Int) ≤ (k : Int) := by omega
      have hx1 : (k : Int) < (n : Int) := by omega
      have HZ := Lib.hid hz
      obtain ⟨b, hb⟩ : ∃ b, p z = b := ⟨_, rfl⟩
      rw [hb] at M
      have HB := Lib.hid hb
      clear c0 hz hb
      go_wp2_with fail
      refine (M.out).mono ?_
      rintro e wx ⟨rfl, hwx⟩
      have B2 := Lib.hid (BR.out.trans (hwx.mono BR.out.size))
      clear hwx
      cases b with
      | true =>
        go_wp2
        go_ret
        refine ⟨⟨k, rfl, ?_⟩, B2.out⟩
        rw [List.any_eq_true.2 ⟨z, List.mem_of_getElem? HZ.out, HB.out⟩]
        exact decide_eq_true (by omega)
      | false =>
        go_wp2
        go_roundw
        case rel => exact ⟨k + 1, by omega, rfl, by simp, B2, Lib.hid (fun i y hi hy => by
          by_cases h : i = k
          · subst h
            rw [HZ.out] at hy
            injection hy with hy
            rw [← hy, HB.out]
          · exact HP.out i y (by omega) hy)⟩
        case measure =>
          simp only [intOf]
          omega
    · have hkd : decide ((k : Int) < (n : Int)) = false := decide_eq_false (by omega)
      go_wp2
      go_ret
      refine ⟨⟨-1, rfl, ?_⟩, BR.out⟩
      symm
      apply Bool.eq_false_iff.2
      intro h
      obtain ⟨z, hz, hpz⟩ := List.any_eq_true.1 h
      obtain ⟨i, hi, e⟩ := List.getElem_of_mem hz
      have := HP.out i z (by rw [HN.out] at hi; omega) (by rw [List.getElem?_eq_getElem hi, e])
      rw [this] at hpz
      cases hpz
set_option maxHeartbeats 2000000 in
theorem rb_contains_at (l : List (List Int)) (n : Nat) (hn : l.length = n) (hn2 : n ≤ 9223372036854775807) (a : Option Addr) (c g : Nat) (lb : Array Value) (p : List Int → Bool) (ok : List Int → Prop) (w : World)
    (eg : ∀ args w, (callFunc g args).run Tryz.prog w = .ok (.enter g args) w) (hl : ∀ z ∈ l, ok z) (hm : Meant w g lb p ok) (hc : ∀ k z, l[k]? = some z → ∃ r, a = some ⟨r, 0, none⟩ ∧ w.cell? ⟨r, k, none⟩ = some (.string (strL z))) :
    Calls Tryz.prog 44 #[.slice a n c, .func (.func g) #[] lb] w fun e w' => e = .returned (.bool (l.any p)) ∧ Below w.heap.size w w' := by
  have IX := Lib.hid (rb_index_at l n hn hn2 a c g lb p ok w eg hl hm hc)
  clear hl hm hc hn
  go_enter Tryz.func44, Tryz.ntmps44
  go_wp2_with fail
  refine IX.out.mono ?_
  rintro e wx ⟨⟨i, rfl, hi⟩, hwx⟩
  obtain ⟨b, hb⟩ : ∃ b, l.any p = b := ⟨_, rfl⟩
  rw [hb] at hi
  have HB := Lib.hid hb
  clear hb
  go_wp2
  go_ret
  exact ⟨by rw [HB.out]; rfl, hwx⟩
end Go.Proofs.YtodlecjbpmggiaaGreatDoor
/- Package robots: the two predicates by which groups are picked. -/
namespace Go.Proofs.YtodlecjbpmggiaaGreatDoor
open Go Go.RowKit
set_option linter.unusedVariables false
set_option linter.unusedSimpArgs false
set_option maxRecDepth 10000

/-- What is asked of a name. -/
def NmOk (z : List Int) : Prop := Byts z ∧ z.length ≤ 1000000000000000
def rbv (l : List UInt8) : List Int := l.map fun c => (c.toNat : Int)
theorem rbv_inj {a b : List UInt8} (e : rbv a = rbv b) : a = b := by
  have h1 : strL (rbv a) = strL (rbv b) := by rw [e]
  have h2 : ∀ l : List UInt8, strL (rbv l) = ⟨l.toArray⟩ := fun l => strL_btL ⟨l.toArray⟩
  rw [h2, h2] at h1
  injection h1 with h1
  have h2 := congrArg Array.toList h1
  simpa using h2
theorem rb_tl {l : List Int} (h : Byts l) (u : List UInt8) : ((strL l).toList == u) = decide (l = rbv u) := by
  have e : rbv (strL l).data.toList = l := btL_strL h
  rw [Lib.toList_data, Bool.eq_iff_iff, beq_iff_eq, decide_eq_true_eq]
  constructor
  · intro h2
    rw [← h2, e]
  · intro h2
    exact rbv_inj (e.trans h2)
theorem tok_byts {z : List Int} (h : Byts z) : Byts (tokL z) := by
  intro c hc
  unfold tokL at hc
  obtain ⟨x, hx, rfl⟩ := List.mem_map.1 hc
  have := h x (List.takeWhile_sublist _ |>.subset hx)
  unfold lwI
  split <;> omega
set_option maxHeartbeats 2000000 in
theorem pick2_at (z : List Int) (hz : NmOk z) (w : World) : Calls Tryz.prog 32 #[.string (strL z)] w fun e w' => e = .returned (.bool (starB z)) ∧ Below w.heap.size w w' := by
  obtain ⟨b, hb⟩ : ∃ b, starB z = b := ⟨_, rfl⟩
  have hd : ((strL z).toList == [42]) = b := by rw [rb_tl hz.1, ← hb]; rfl
  rw [hb]
  go_enter Tryz.func32, Tryz.ntmps32
  go_wp2
  go_ret
  exact ⟨rfl, Below.refl _ _⟩
set_option maxHeartbeats 4000000 in
theorem pick1_at (z tk : List Int) (hz : NmOk z) (ht : Byts tk) (g : Nat) (w : World) (hbx : Box w g #[.string (strL tk)] 9) :
    Calls Tryz.prog 31 #[.string (strL z), .pointer (some ⟨g, 0, none⟩)] w fun e w' => e = .returned (.bool (mineB tk z)) ∧ Below w.heap.size w w' := by
  have TK : Hid (∀ W, Calls Tryz.prog 13 #[.string (strL z)] W fun e w' => e = .returned (.string (strL (tokL z))) ∧ Below W.heap.size W w') := Lib.hid (fun W => by
    have := token_at (strL z) (by rw [strL_size]; exact hz.2) W
    rw [btL_strL hz.1] at this
    exact this)
  obtain ⟨b, hb⟩ : ∃ b, mineB tk z = b := ⟨_, rfl⟩
  rw [hb]
  have BX := Lib.hid hbx
  have c0 := hbx.cell 0
  clear hbx
  go_enter Tryz.func31, Tryz.ntmps31
  go_upto_region 1 with fail
  by_cases h : tk = []
  · subst h
    have hb2 : b = false := by rw [← hb]; rfl
    subst hb2
    have e0 : (strL []).toList.isEmpty = true := by rw [Lib.toList_data]; rfl
    go_quiet (fail)
    go_wp2
    go_ret
    exact ⟨rfl, ln_drewN (Below.refl _ _) nq⟩
  · have e0 : (strL tk).toList.isEmpty = false := by
      rw [Lib.toList_data]
      cases tk with
      | nil => exact absurd rfl h
      | cons x t => rfl
    have hd : ((strL (tokL z)).toList == (strL tk).toList) = b := by
      rw [rb_tl (tok_byts hz.1), ← hb, show rbv (strL tk).toList = tk by rw [Lib.toList_data]; exact btL_strL ht]
      unfold mineB
      cases tk with
      | nil => exact absurd rfl h
      | cons x t => rfl
    have BD : Hid (∀ wx, Below w.drew.heap.size w.drew wx → Below w.heap.size w wx) := Lib.hid (fun wx hb => (Below.refl _ _).drew.trans (hb.mono (Nat.le_refl _)))
    go_region_with (refine (TK.out _).mono ?_; rintro e wx ⟨rfl, hwx⟩; have c1 := (BX.out.drew.later hwx).cell 0)
    all_goals
      go_wp2
      go_ret
      exact ⟨rfl, BD.out _ hwx⟩
end Go.Proofs.YtodlecjbpmggiaaGreatDoor
/- Package robots: the groups that are meant. -/
namespace Go.Proofs.YtodlecjbpmggiaaGreatDoor
open Go Go.RowKit
set_option linter.unusedVariables false
set_option linter.unusedSimpArgs false
set_option maxRecDepth 10000

theorem rbA_get {l : List (List Int)} {i : Nat} {z : List Int} (h : l[i]? = some z) : (agC l)[i]? = some (.string (strL z)) := by
  unfold agC
  rw [List.getElem?_map, h]
  rfl
theorem GsM.rcell {E : TypeId} {B cap g : Nat} {w : World} {L : List (Gp × GpA)} (h : GsM E B w (some ⟨g, 0, none⟩) cap L) {i : Nat} {x : Gp × GpA} (hx : L[i]? = some x) (j : Nat) (hj : j < 3) : w.cell? ⟨g, i * 3 + j, none⟩ = (gpC x)[j]? := by
  have h2 := gsC_get hx j hj
  have el : (gpC x).length = 3 := rfl
  rw [← h2]
  have hi := (List.getElem?_eq_some_iff.1 hx).1
  exact (h.own.cell (List.getElem?_eq_getElem (by rw [gsC_len]; omega))).trans (List.getElem?_eq_getElem _).symm
/-- What a walk is told of one group. -/
structure R1 (w : World) (g i : Nat) (x : Gp × GpA) : Prop where
  c0 : w.cell? ⟨g, i * 3, none⟩ = some (.slice x.2.aa x.1.ag.length x.2.ac)
  c1 : w.cell? ⟨g, i * 3 + 1, none⟩ = some (.slice x.2.ra x.1.ru.length x.2.rc)
  c2 : w.cell? ⟨g, i * 3 + 2, none⟩ = some (.int .i64 x.1.de)
  ag : ∀ k z, x.1.ag[k]? = some z → ∃ r, x.2.aa = some ⟨r, 0, none⟩ ∧ w.cell? ⟨r, k, none⟩ = some (.string (strL z))
  la : x.1.ag.length ≤ 9223372036854775807
  lr : x.1.ru.length ≤ 9223372036854775807
theorem R1.later {w w' : World} {g i : Nat} {x : Gp × GpA} (h : R1 w g i x) (hb : Below w.heap.size w w') : R1 w' g i x := by
  have k : ∀ {p : Addr} {u : Value}, w.cell? p = some u → w'.cell? p = some u := fun hp => (hb.cell (World.block_lt_of_cell? _ _ hp)).trans hp
  refine ⟨k h.c0, k h.c1, k h.c2, fun j z hz => ?_, h.la, h.lr⟩
  obtain ⟨r, h1, h2⟩ := h.ag j z hz
  exact ⟨r, h1, k h2⟩
theorem GsM.rone {E : TypeId} {B cap g : Nat} {w : World} {L : List (Gp × GpA)} (h : GsM E B w (some ⟨g, 0, none⟩) cap L) {i : Nat} {x : Gp × GpA} (hx : L[i]? = some x) : R1 w g i x := by
  have hr := h.all x (List.mem_of_getElem? hx)
  refine ⟨h.rcell hx 0 (by omega), h.rcell hx 1 (by omega), h.rcell hx 2 (by omega), fun k z hz => ?_, Nat.le_trans hr.a.cap_le hr.a.max, Nat.le_trans hr.r.cap_le hr.r.max⟩
  have hk := (List.getElem?_eq_some_iff.1 hz).1
  obtain ⟨r, h1, _⟩ := Own.some_ hr.a (by omega)
  have h2 := hr.a
  rw [h1] at h2
  exact ⟨r, h1, h2.cell (rbA_get hz)⟩
def ChP (B : Nat) (w : World) (gs : List Gp) (p : List Int → Bool) (e : Ending) (w' : World) : Prop :=
  ∃ a cap GB, e = .returned (.slice a GB.length cap) ∧ GsM 58 B w' a cap GB ∧ GB.map (·.1) = pickF p gs ∧ Below w.heap.size w w'
structure ChS (w wr : World) (GA : List (Gp × GpA)) (p : List Int → Bool) (i : Nat) (a : Option Addr) (cap : Nat) (GB : List (Gp × GpA)) : Prop where
  own : Own wr w.heap.size 58 3 a GB.length cap (gsC GB)
  bel : Below w.heap.size w wr
  eq : GB = (GA.take i).filter fun x => x.1.ag.any p
theorem ChS.done {B cap0 : Nat} {a0 : Option Addr} {w wr : World} {GA GB : List (Gp × GpA)} {p : List Int → Bool} {i : Nat} {a : Option Addr} {cap : Nat} (h : ChS w wr GA p i a cap GB) (hi : GA.length = i) (h0 : GsM 58 B w a0 cap0 GA) (hB : B ≤ w.heap.size) :
    ChP B w (GA.map (·.1)) p (.returned (.slice a GB.length cap)) wr := by
  have he := h.eq
  rw [List.take_of_length_le (by omega)] at he
  have hin : ∀ x ∈ GB, x ∈ GA := fun x hx => by rw [he] at hx; exact (List.mem_filter.1 hx).1
  refine ⟨a, cap, GB, rfl, ⟨h.own.mono hB, fun x hx => (h0.all x (hin x hx)).later h.bel, fun g hg x hx => ?_⟩, ?_, h.bel⟩
  · have ho := h.own
    rw [hg] at ho
    have hl := ho.lt.1
    have hr := h0.all x (hin x hx)
    exact ⟨fun k hk => by have := own_bl hr.a hk; omega, fun k hk => by have := own_bl hr.r hk; omega⟩
  · rw [he]
    unfold pickF
    rw [List.filter_map]
    rfl
set_option maxHeartbeats 4000000 in
theorem choose_at (GA : List (Gp × GpA)) (n : Nat) (hn : GA.length = n) (hn2 : n ≤ 10000) (a : Option Addr) (cap B : Nat) (w : World) (h : GsM 58 B w a cap GA) (hB : B ≤ w.heap.size)
    (g : Nat) (lb : Array Value) (p : List Int → Bool) (ok : List Int → Prop) (eg : ∀ args w, (callFunc g args).run Tryz.prog w = .ok (.enter g args) w) (hl : ∀ x ∈ GA, ∀ z ∈ x.1.ag, ok z) (hm : Meant w g lb p ok) :
    Calls Tryz.prog 30 #[.slice a n cap, .func (.func g) #[] lb] w (ChP B w (GA.map (·.1)) p) := by
  have HA : Hid (∀ i x, GA[i]? = some x → ∃ ga, a = some ⟨ga, 0, none⟩ ∧ R1 w ga i x) := Lib.hid (fun i x hx => by
    have hi := (List.getElem?_eq_some_iff.1 hx).1
    obtain ⟨ga, rfl, _⟩ := Own.some_ h.own (by omega)
    exact ⟨ga, rfl, h.rone hx⟩)
  have CT : Hid (∀ x ∈ GA, ∀ W, Below w.heap.size w W → Calls Tryz.prog 44 #[.slice x.2.aa x.1.ag.length x.2.ac, .func (.func g) #[] lb] W fun e w' => e = .returned (.bool (x.1.ag.any p)) ∧ Below W.heap.size W w') := Lib.hid (fun x hx W hW => by
    obtain ⟨i, hi⟩ := List.getElem?_of_mem hx
    obtain ⟨ga, rfl, g1⟩ := HA.out i x hi
    have g2 := g1.later hW
    exact rb_contains_at x.1.ag _ rfl g2.la x.2.aa x.2.ac g lb p ok W eg (hl x hx) (hm.later hW) g2.ag)
  have FIN : Hid (∀ wr a' cap' GB, ChS w wr GA p n a' cap' GB → ChP B w (GA.map (·.1)) p (.returned (.slice a' GB.length cap')) wr) := Lib.hid (fun wr a' cap' GB hs => hs.done hn h hB)
  have HN := Lib.hid hn
  clear hl hm eg h hn
  go_enter Tryz.func30, Tryz.ntmps30
  go_wp2_with fail
  go_loopw [5, 7, 10] (fun r _ j wr => ∃ (i : Nat) (a' : Option Addr) (cap' : Nat) (GB : List (Gp × GpA)), i ≤ n ∧ r = .slice a' GB.length cap' ∧ j = .int .i64 (i : Int) ∧ GB.length ≤ i ∧ w.heap.size ≤ wr.heap.size ∧ Hid (ChS w wr GA p i a' cap' GB)) (fun _ _ j _ => n - (intOf j).toNat)
  case atStart => exact ⟨0, none, 0, [], by omega, rfl, rfl, Nat.le_refl _, Nat.le_refl _, Lib.hid ⟨Own.nil _ _ _ _, Below.refl _ _, rfl⟩⟩
  case round =>
    obtain ⟨i, a', cap', GB, hi, rfl, rfl, hle, sz, HS⟩ := hrel
    by_cases hlt : i < n
    · have hkd : decide ((i : Int) < (n : Int)) = true := decide_eq_true (by omega)
      obtain ⟨x, hx⟩ : ∃ x, GA[i]? = some x := ⟨_, List.getElem?_eq_getElem (by rw [HN.out]; exact hlt)⟩
      obtain ⟨ga, ha, g1⟩ := HA.out i x hx
      subst ha
      have g2 := g1.later HS.out.bel
      have x0 := g2.c0
      have x1 := g2.c1
      have x2 := g2.c2
      have hx0 : (0 : Int) ≤ (i : Int) := by omega
      have hx1 : (i : Int) < (n : Int) := by omega
      have CX := Lib.hid (CT.out x (List.mem_of_getElem? hx))
      have HX := Lib.hid (List.take_add_one (l := GA) (i := i))
      have HX2 := Lib.hid hx
      obtain ⟨gp, aa, ac, ra, rc⟩ := x
      dsimp only at x0 x1 x2 CX
      obtain ⟨wo, rfl⟩ : ∃ x, x = wr := ⟨_, rfl⟩
      have BX := Lib.hid (Box.new wo #[.slice aa gp.ag.length ac, .slice ra gp.ru.length rc, .int .i64 gp.de] 58)
      have BA := Lib.hid (HS.out.bel.alloc sz (.cells #[.slice aa gp.ag.length ac, .slice ra gp.ru.length rc, .int .i64 gp.de] 58))
      have HO := Lib.hid HS.out.own
      have HE := Lib.hid HS.out.eq
      obtain ⟨b, hb⟩ : ∃ b, gp.ag.any p = b := ⟨_, rfl⟩
      rw [hb] at CX
      have HB := Lib.hid hb
      clear g1 g2 hx hb HA HS
      go_wp2_with fail
      refine (CX.out _ BA.out).mono ?_
      rintro e w2 ⟨rfl, hb2⟩
      have b2 := BX.out.later hb2
      have OG : Hid (Own w2 w.heap.size 58 3 a' GB.length cap' (gsC GB)) := Lib.hid ((HO.out.alloc _).later hb2)
      have B2 := Lib.hid (BA.out.trans (hb2.mono BA.out.size))
      have d0 : w2.cell? ⟨wo.heap.size, 0, none⟩ = some (.slice aa gp.ag.length ac) := by rw [b2.cell 0]; rfl
      have d1 : w2.cell? ⟨wo.heap.size, 1, none⟩ = some (.slice ra gp.ru.length rc) := by rw [b2.cell 1]; rfl
      have d2 : w2.cell? ⟨wo.heap.size, 2, none⟩ = some (.int .i64 gp.de) := by rw [b2.cell 2]; rfl
      have sz2 := B2.out.size
      clear hb2 b2 x0 x1 x2
      cases b with
      | true =>
        have HZ : Hid (gsC GB ++ (#[.slice aa gp.ag.length ac, .slice ra gp.ru.length rc, .int .i64 gp.de] : Array Value).toList = gsC (GB ++ [(gp, ⟨aa, ac, ra, rc⟩)])) := Lib.hid (by rw [gsC_app]; rfl)
        have h1c : (#[.slice aa gp.ag.length ac, .slice ra gp.ru.length rc, .int .i64 gp.de] : Array Value).all (·.oneCell') = true := by simp [Value.oneCell']
        go_wp2_with (at_builtin; refine wpList_app1 rowG rfl _ _ rfl w.heap.size a' GB.length cap' (gsC GB) rfl OG.out #[.slice aa gp.ag.length ac, .slice ra gp.ru.length rc, .int .i64 gp.de] rfl rfl h1c (by omega) (by decide) sz2 (GB.length + 1) rfl (gsC (GB ++ [(gp, ⟨aa, ac, ra, rc⟩)])) HZ.out ?_; rintro g' cap2 w3 q1 q2 q3 q4)
        have NX : Hid (ChS w w3 GA p (i + 1) (some ⟨g', 0, none⟩) cap2 (GB ++ [(gp, ⟨aa, ac, ra, rc⟩)])) := Lib.hid ⟨by rw [List.length_append]; exact q1, B2.out.trans q3, by
          rw [HX.out, HX2.out, List.filter_append, ← HE.out]
          simp [HB.out]⟩
        have sz3 := Nat.le_trans sz2 q3.size
        clear q1 q2 q3 q4 d0 d1 d2
        go_wp2
        go_roundw
        case rel => exact ⟨i + 1, _, _, _, by omega, by rw [List.length_append]; rfl, by simp, by rw [List.length_append]; simp; omega, sz3, NX⟩
        case measure =>
          simp only [intOf]
          omega
      | false =>
        have NX : Hid (ChS w w2 GA p (i + 1) a' cap' GB) := Lib.hid ⟨OG.out, B2.out, by
          rw [HX.out, HX2.out, List.filter_append, ← HE.out]
          simp [HB.out]⟩
        go_wp2
        go_roundw
        case rel => exact ⟨i + 1, _, _, _, by omega, rfl, by simp, by omega, sz2, NX⟩
        case measure =>
          simp only [intOf]
          omega
    · have hkd : decide ((i : Int) < (n : Int)) = false := decide_eq_false (by omega)
      obtain rfl : i = n := by omega
      go_wp2
      go_ret
      exact FIN.out _ _ _ _ HS.out
end Go.Proofs.YtodlecjbpmggiaaGreatDoor
/- Package robots: append of a whole slice, the empty one too; a slice expression with three indexes. No program here. -/
namespace Go.Proofs.YtodlecjbpmggiaaGreatDoor
open Go Go.RowKit
set_option linter.unusedVariables false
set_option linter.unusedSimpArgs false

/-- A slice that is read. -/
def RdC (w : World) (a : Option Addr) (xs : List Value) : Prop := ∀ j u, xs[j]? = some u → ∃ g, a = some ⟨g, 0, none⟩ ∧ w.cell? ⟨g, j, none⟩ = some u
theorem RdC.later {w w' : World} {a : Option Addr} {xs : List Value} (h : RdC w a xs) (hb : Below w.heap.size w w') : RdC w' a xs := fun j u hj => by
  obtain ⟨g, h1, h2⟩ := h j u hj
  exact ⟨g, h1, (hb.cell (World.block_lt_of_cell? _ _ h2)).trans h2⟩
theorem Own.rdc {w : World} {B size n cap : Nat} {E : TypeId} {a : Option Addr} {xs : List Value} (h : Own w B E size a n cap xs) : RdC w a xs := fun j u hj => by
  have hl := h.len
  have hjl := (List.getElem?_eq_some_iff.1 hj).1
  rcases Nat.eq_zero_or_pos n with h0 | h0
  · subst h0
    omega
  · obtain ⟨g, rfl, _⟩ := h.some_ h0
    exact ⟨g, rfl, h.cell hj⟩
theorem RdC.take {w : World} {a : Option Addr} {xs : List Value} (h : RdC w a xs) (k : Nat) : RdC w a (xs.take k) := fun j u hj => by
  rw [List.getElem?_take] at hj
  split at hj
  · exact h j u hj
  · cases hj
theorem RdC.nil (w : World) (a : Option Addr) : RdC w a [] := fun j u hj => by simp at hj
section
variable {P : Program} {ops : Array Oper} {rest : List Oper} {o : Oper} {act : Act} {Q : Exit → Act → World → Prop} {w : World}
theorem run_app0 {T E : TypeId} {size bytes : Nat} (hT : RowTy P T E size bytes) (ty : TypeId) (a : Option Addr) (n cap : Nat) (hle : n ≤ cap) (a2 : Option Addr) (c2 : Nat) (w : World) :
    (Builtin.append_ #[T, T] ty #[.slice a n cap, .slice a2 0 c2]).run P w = .ok (.slice a n cap) w := by
  obtain ⟨i, z, hi, hz, hs, hb, hzs⟩ := hT.parts
  refine run_append_nothing w T T ty E i hT.und hi a n cap hle _ ?_
  cases a2 with
  | none => exact Src.ofNil w hT.und c2
  | some p => exact Src.ofSlice w hT.und p 0 c2 [] (by simp) (fun j u hj => by simp at hj) (fun u hu => by cases hu)
/-- Any number of elements is appended to a slice of one's own. -/
theorem wpList_appN {T E : TypeId} {size bytes : Nat} (hT : RowTy P T E size bytes) (hgd : o.guard = none) (s x : Operand) (ho : o.op = .call { callee := .builtin .append, args := #[s, x], argTypes := #[T, T] })
    (B : Nat) (a : Option Addr) (n cap : Nat) (xs : List Value) (hs : act.eval s = .slice a n cap) (hown : Own w B E size a n cap xs)
    (a2 : Option Addr) (m c2 : Nat) (ys : List Value) (hx : act.eval x = .slice a2 m c2) (hl : ys.length = m * size) (hr : RdC w a2 ys) (h1 : ∀ u ∈ ys, u.oneCell' = true)
    (h63 : n + m ≤ 1000000) (hby : bytes ≤ 100000) (hB : B ≤ w.heap.size) (N : Nat) (hN : n + m = N) (zs : List Value) (hz : xs ++ ys = zs)
    (h : ∀ a' cap' w', Own w' B E size a' N cap' zs → w.grownBy w' (a.map (·.block)) → Below B w w' → wpList P ops Q rest (act.put o.dst (.slice a' N cap')) w') : wpList P ops Q (o :: rest) act w := by
  have hpos := hT.pos
  rcases Nat.eq_zero_or_pos m with h0 | h0
  · subst h0
    obtain rfl : ys = [] := List.length_eq_zero_iff.1 (by omega)
    rw [List.append_nil] at hz
    subst hz
    obtain rfl : n = N := by omega
    refine wpList_plain hgd fun K hK => ?_
    unfold Oper.wp execOp
    simp only [ho, resolve, invoke, builtin, Sem.run_bind, Sem.run_pure, Result.andThen_ok, List.map_toArray, List.map_cons, List.map_nil, hs, hx, run_app0 hT o.type a n cap hown.cap_le a2 c2 w]
    exact hK _ _ (h a cap w hown (World.grownBy.refl w _) (Below.refl _ _))
  · obtain ⟨u, hu⟩ : ∃ u, ys[0]? = some u := ⟨_, List.getElem?_eq_getElem (by rw [hl]; exact Nat.mul_pos h0 hpos)⟩
    obtain ⟨b2, rfl, _⟩ := hr 0 u hu
    exact wpList_appR hT hgd s x ho B a n cap xs hs hown b2 0 m c2 ys hx h0 hl (fun j u hj => by
      obtain ⟨g, e, hc⟩ := hr j u hj
      injection e with e
      injection e with e
      subst e
      rw [Nat.zero_add]
      exact hc) h1 h63 hby hB N hN zs hz (fun g cap' w' q1 q2 q3 _ => h _ cap' w' q1 q2 q3)
end
theorem sliceMax_run {P : Program} {T E : TypeId} {size bytes : Nat} (hT : RowTy P T E size bytes) (a : Option Addr) (len cap k : Nat) (hk : k ≤ cap) (w : World) (ha : a = none → cap = 0) :
    (Instr.sliceAt T (.slice a len cap) none (some (.int .i64 k)) (some (.int .i64 k))).run P w = .ok (.slice a k k) w := by
  obtain ⟨i, z, hi, hz, hs, hb, hzs⟩ := hT.parts
  cases a with
  | none =>
    have := ha rfl
    subst this
    obtain rfl : k = 0 := by omega
    simp [Instr.sliceAt, Instr.slice, run_underlying hT.und, Instr.sliceBounds, Instr.sliceBound, asIntOf, sizeOf, typeInfo, hi, go_sem]
  | some p =>
    by_cases h0 : k = 0
    · subst h0
      simp [Instr.sliceAt, Instr.slice, run_underlying hT.und, Instr.sliceBounds, Instr.sliceBound, asIntOf, sizeOf, typeInfo, hi, go_sem]
    · simp [Instr.sliceAt, Instr.slice, run_underlying hT.und, Instr.sliceBounds, Instr.sliceBound, asIntOf, sizeOf, typeInfo, hi, hk, h0, go_sem]
end Go.Proofs.YtodlecjbpmggiaaGreatDoor
namespace Go.Proofs.YtodlecjbpmggiaaGreatDoor
open Go Go.RowKit
set_option linter.unusedVariables false
set_option linter.unusedSimpArgs false
set_option maxRecDepth 10000

theorem ruC_len (l : List (Bool × List Int)) : (ruC l).length = l.length * 2 := by
  induction l with
  | nil => rfl
  | cons x t ih => simp [ruC, List.flatMap_cons] at ih ⊢; omega
theorem ruC_one (l : List (Bool × List Int)) : ∀ u ∈ ruC l, u.oneCell' = true := by
  intro u hu
  unfold ruC at hu
  obtain ⟨z, _, hz⟩ := List.mem_flatMap.1 hu
  simp at hz
  rcases hz with rfl | rfl <;> rfl
theorem ruC_take (l : List (Bool × List Int)) (k : Nat) : ruC (l.take k) = (ruC l).take (k * 2) := by
  induction l generalizing k with
  | nil => simp [ruC]
  | cons x t ih =>
    cases k with
    | zero => simp [ruC]
    | succ k =>
      have := ih k
      simp only [ruC, List.take_succ_cons, List.flatMap_cons] at this ⊢
      rw [show (k + 1) * 2 = k * 2 + 1 + 1 by omega]
      simp [this]
theorem RdC.other {w : World} {a : Option Addr} {xs : List Value} (h : RdC w a xs) {p : Addr} (hp : ∀ g, a = some ⟨g, 0, none⟩ → g ≠ p.block) (u : Value) : RdC (w.setCell p u) a xs := fun j v hj => by
  obtain ⟨g, h1, h2⟩ := h j v hj
  refine ⟨g, h1, ?_⟩
  have := Below.heap_setCell w p u g (hp g h1)
  unfold World.cell? at h2 ⊢
  rw [this]
  exact h2
/-- What Robots hold in memory. -/
def RoP (w : World) (r : Rb) (e : Ending) (w' : World) : Prop :=
  ∃ a cap, e = .returned (.agg #[.bool r.all, .bool r.none_, .slice a r.ru.length cap, .int .i64 r.de]) ∧ RdC w' a (ruC r.ru) ∧ r.ru.length ≤ cap ∧ cap ≤ 9223372036854775807 ∧ (∀ g, a = some ⟨g, 0, none⟩ → w.heap.size ≤ g) ∧ Below w.heap.size w w'
structure MgS (w wr : World) (GA : List (Gp × GpA)) (i : Nat) (a : Option Addr) (cap : Nat) (rs : List (Bool × List Int)) (d : Int) : Prop where
  own : Own wr w.heap.size 30 2 a rs.length cap (ruC rs)
  box : Box wr (w.heap.size + 1) #[.bool false, .bool false, .slice a rs.length cap, .int .i64 d] 26
  res : Box wr w.heap.size #[.bool false, .bool false, .slice none 0 0, .int .i64 0] 26
  bel : Below w.heap.size w wr
  rs : rs = ((GA.take i).map (·.1)).flatMap (·.ru)
  de : d = ((GA.take i).map (·.1)).foldl (fun d g => max d g.de) 0
theorem flat_le (l : List Gp) (i : Nat) : ((l.take i).flatMap (·.ru)).length ≤ (l.flatMap (·.ru)).length := by
  induction l generalizing i with
  | nil => simp
  | cons x t ih =>
    cases i with
    | zero => simp
    | succ i =>
      have := ih i
      simp only [List.take_succ_cons, List.flatMap_cons, List.length_append]
      omega
set_option maxHeartbeats 4000000 in
theorem merge_at (GA : List (Gp × GpA)) (n : Nat) (hn : GA.length = n) (hn2 : n ≤ 10000) (hsum : ((GA.map (·.1)).flatMap (·.ru)).length ≤ 100000) (a : Option Addr) (cap B : Nat) (w : World) (h : GsM 58 B w a cap GA) :
    Calls Tryz.prog 33 #[.slice a n cap] w (RoP w (mergeL (GA.map (·.1)))) := by
  have HA : Hid (∀ i x, GA[i]? = some x → ∃ ga, a = some ⟨ga, 0, none⟩ ∧ R1 w ga i x ∧ RdC w x.2.ra (ruC x.1.ru)) := Lib.hid (fun i x hx => by
    have hi := (List.getElem?_eq_some_iff.1 hx).1
    obtain ⟨ga, rfl, _⟩ := Own.some_ h.own (by omega)
    exact ⟨ga, rfl, h.rone hx, (h.all x (List.mem_of_getElem? hx)).r.rdc⟩)
  have FL : Hid (∀ i x, GA[i]? = some x → (((GA.take i).map (·.1)).flatMap (·.ru)) ++ x.1.ru = ((GA.take (i + 1)).map (·.1)).flatMap (·.ru)) := Lib.hid (fun i x hx => by
    rw [List.take_add_one, hx]
    simp [List.flatMap_append])
  have FD : Hid (∀ i x, GA[i]? = some x → max (((GA.take i).map (·.1)).foldl (fun d g => max d g.de) 0) x.1.de = ((GA.take (i + 1)).map (·.1)).foldl (fun d g => max d g.de) 0) := Lib.hid (fun i x hx => by
    rw [List.take_add_one, hx]
    simp [List.foldl_append])
  have FS : Hid (∀ i, (((GA.take i).map (·.1)).flatMap (·.ru)).length ≤ 100000) := Lib.hid (fun i => by
    rw [List.map_take]
    exact Nat.le_trans (flat_le _ i) hsum)
  have HN := Lib.hid hn
  clear h hn hsum
  go_enter Tryz.func33, Tryz.ntmps33
  go_wp2_with fail
  go_loopw [5, 9] (fun _ j wr => ∃ (i : Nat) (a' : Option Addr) (cap' : Nat) (rs : List (Bool × List Int)) (d : Int), i ≤ n ∧ j = .int .i64 (i : Int) ∧ w.heap.size + 1 < wr.heap.size ∧ rs.length ≤ 100000 ∧ Hid (MgS w wr GA i a' cap' rs d)) (fun _ j _ => n - (intOf j).toNat)
  case atStart =>
    refine ⟨0, none, 0, [], 0, by omega, rfl, by simp, by simp, Lib.hid ⟨Own.nil _ _ _ _, ?_, ?_, ?_, rfl, rfl⟩⟩
    · simpa using Box.new (w.alloc (.cells #[.bool false, .bool false, .slice none 0 0, .int .i64 0] 26)) #[.bool false, .bool false, .slice none 0 0, .int .i64 0] 26
    · exact (Box.new w _ _).alloc _
    · exact ((Below.refl _ _).alloc (Nat.le_refl _) _).alloc (by simp) _
  case round =>
    obtain ⟨i, a', cap', rs, d, hi, rfl, sz, hrl, HS⟩ := hrel
    by_cases hlt : i < n
    · have hkd : decide ((i : Int) < (n : Int)) = true := decide_eq_true (by omega)
      obtain ⟨x, hx⟩ : ∃ x, GA[i]? = some x := ⟨_, List.getElem?_eq_getElem (by rw [HN.out]; exact hlt)⟩
      obtain ⟨ga, ha, g1, rdr⟩ := HA.out i x hx
      subst ha
      have g2 := g1.later HS.out.bel
      have x0 := g2.c0
      have x1 := g2.c1
      have x2 := g2.c2
      have hx0 : (0 : Int) ≤ (i : Int) := by omega
      have hx1 : (i : Int) < (n : Int) := by omega
      have RF := Lib.hid (by have := FL.out i x hx; rw [← HS.out.rs] at this; exact this)
      have RD := Lib.hid (by have := FD.out i x hx; rw [← HS.out.de] at this; exact this)
      have RL := FS.out (i + 1)
      rw [← RF.out] at RL
      have RR := Lib.hid (rdr.later HS.out.bel)
      obtain ⟨gp, aa, ac, ra, rc⟩ := x
      dsimp only at x0 x1 x2 RF RD RL RR
      obtain ⟨wo, rfl⟩ : ∃ x, x = wr := ⟨_, rfl⟩
      obtain ⟨ob, hob⟩ : ∃ ob, Obj.cells #[.slice aa gp.ag.length ac, .slice ra gp.ru.length rc, .int .i64 gp.de] 58 = ob := ⟨_, rfl⟩
      have szo : w.heap.size ≤ wo.heap.size := by omega
      have BX := Lib.hid (Box.new wo #[.slice aa gp.ag.length ac, .slice ra gp.ru.length rc, .int .i64 gp.de] 58)
      have BR := Lib.hid (HS.out.box.alloc (.cells #[.slice aa gp.ag.length ac, .slice ra gp.ru.length rc, .int .i64 gp.de] 58))
      have BS := Lib.hid (HS.out.res.alloc (.cells #[.slice aa gp.ag.length ac, .slice ra gp.ru.length rc, .int .i64 gp.de] 58))
      have BA := Lib.hid (HS.out.bel.alloc szo (.cells #[.slice aa gp.ag.length ac, .slice ra gp.ru.length rc, .int .i64 gp.de] 58))
      have OA := Lib.hid (HS.out.own.alloc (.cells #[.slice aa gp.ag.length ac, .slice ra gp.ru.length rc, .int .i64 gp.de] 58))
      have RA := Lib.hid (RR.out.later ((Below.refl _ _).alloc (Nat.le_refl _) (.cells #[.slice aa gp.ag.length ac, .slice ra gp.ru.length rc, .int .i64 gp.de] 58)))
      have y2 := HS.out.box.cell 2
      clear g1 g2 hx HA HS rdr RR hob
      have HZ : Hid (ruC rs ++ ruC gp.ru = ruC (rs ++ gp.ru)) := Lib.hid (ruC_app _ _).symm
      have hN0 : rs.length + gp.ru.length = (rs ++ gp.ru).length := by rw [List.length_append]
      obtain ⟨r2, hr2⟩ : ∃ r, rs ++ gp.ru = r := ⟨_, rfl⟩
      rw [hr2] at HZ hN0 RL RF
      have h63 : rs.length + gp.ru.length ≤ 1000000 := by omega
      have HNN := Lib.hid hN0
      clear hN0 hr2
      go_upto_region 5 with fail
      obtain ⟨wa, hwa⟩ : ∃ W, wo.alloc (.cells #[.slice aa gp.ag.length ac, .slice ra gp.ru.length rc, .int .i64 gp.de] 58) = W := ⟨_, rfl⟩
      rw [hwa] at BX BR BS BA OA RA
      rw [hwa]
      clear hwa x0 x1 x2 y2
      have lR := BR.out.lt
      have lG := BX.out.lt
      have lS := BS.out.lt
      have szA := BA.out.size
      have y2 := BR.out.cell 2
      have z1 := BX.out.cell 1
      have LEAF : Hid (∀ a2 cap2 w3, Own w3 w.heap.size 30 2 a2 r2.length cap2 (ruC r2) → wa.grownBy w3 (a'.map (·.block)) → Below w.heap.size wa w3 → w3.cell? ⟨w.heap.size + 1, 2, none⟩ = some (.slice a' rs.length cap') ∧ w3.frozen? ⟨w.heap.size + 1, 2, none⟩ = false ∧
          Hid (Own (w3.setCell ⟨w.heap.size + 1, 2, none⟩ (.slice a2 r2.length cap2)) w.heap.size 30 2 a2 r2.length cap2 (ruC r2) ∧
            Box (w3.setCell ⟨w.heap.size + 1, 2, none⟩ (.slice a2 r2.length cap2)) (w.heap.size + 1) #[.bool false, .bool false, .slice a2 r2.length cap2, .int .i64 d] 26 ∧
            Box (w3.setCell ⟨w.heap.size + 1, 2, none⟩ (.slice a2 r2.length cap2)) w.heap.size #[.bool false, .bool false, .slice none 0 0, .int .i64 0] 26 ∧
            Box (w3.setCell ⟨w.heap.size + 1, 2, none⟩ (.slice a2 r2.length cap2)) wo.heap.size #[.slice aa gp.ag.length ac, .slice ra gp.ru.length rc, .int .i64 gp.de] 58 ∧
            Below w.heap.size w (w3.setCell ⟨w.heap.size + 1, 2, none⟩ (.slice a2 r2.length cap2)))) := Lib.hid (fun a2 cap2 w3 q1 q2 q3 => by
        have k1 : Box w3 (w.heap.size + 1) _ _ := (q2.block _ lR (own_not_box OA.out BR.out (by decide))).trans BR.out
        have k2 : Box w3 w.heap.size _ _ := (q2.block _ lS (own_not_box OA.out BS.out (by decide))).trans BS.out
        have k3 : Box w3 wo.heap.size _ _ := (q2.block _ lG (own_not_box OA.out BX.out (by decide))).trans BX.out
        refine ⟨by rw [k1.cell 2]; rfl, k1.free 2, Lib.hid ⟨q1.other (fun g hg e => own_not_box q1 k1 (by decide) (by rw [hg]; exact congrArg some e.symm)) _, k1.set 2 _, k2.other (by simp) _, k3.other (by simp; omega) _, ?_⟩⟩
        exact (BA.out.trans q3).setCell (by simp) _)
      go_upto_region 6 with (at_builtin; refine wpList_appN rowU rfl _ _ rfl w.heap.size a' rs.length cap' (ruC rs) rfl OA.out ra gp.ru.length rc (ruC gp.ru) rfl (ruC_len _) RA.out (ruC_one _) h63 (by decide) szA r2.length HNN.out (ruC r2) HZ.out ?_; rintro a2 cap2 w3 q1 q2 q3; obtain ⟨c3, f3, NX⟩ := LEAF.out a2 cap2 w3 q1 q2 q3; have lR3 := Nat.lt_of_lt_of_le lR q2.size; clear LEAF q1 q2 q3)
      obtain ⟨w4, hw4⟩ : ∃ W, w3.setCell ⟨w.heap.size + 1, 2, none⟩ (.slice a2 r2.length cap2) = W := ⟨_, rfl⟩
      rw [hw4] at NX
      rw [hw4]
      clear hw4 c3 f3 y2 z1 lR lG lS lR3 OA BR BX BS BA RA
      obtain ⟨n1, n2, n3, n4, n5⟩ := NX.out
      have c3 := n2.cell 3
      have f3 := n2.free 3
      have g2 := n4.cell 2
      have OW := Lib.hid n1
      have NB := Lib.hid n2
      have NR := Lib.hid n3
      have NL := Lib.hid n5
      have lR := n2.lt
      have lG := n4.lt
      obtain ⟨d2, hd2⟩ : ∃ d2, max d gp.de = d2 := ⟨_, rfl⟩
      rw [hd2] at RD
      clear n1 n2 n3 n4 n5 NX
      have NX : Hid (MgS w (w4.setCell ⟨w.heap.size + 1, 3, none⟩ (.int .i64 d2)) GA (i + 1) a2 cap2 r2 d2) := Lib.hid
        ⟨OW.out.other (fun g hg e => own_not_box OW.out NB.out (by decide) (by rw [hg]; exact congrArg some e.symm)) _, NB.out.set 3 _, NR.out.other (by simp) _, NL.out.setCell (by simp) _, RF.out, RD.out.symm ▸ rfl⟩
      go_wp2_with fail
      go_roundw
      case rel => exact ⟨i + 1, a2, cap2, r2, d2, by omega, by simp, by simpa using lR, RL, NX⟩
      case measure =>
        simp only [intOf]
        omega
    · have hkd : decide ((i : Int) < (n : Int)) = false := decide_eq_false (by omega)
      obtain rfl : i = n := by omega
      have he1 := HS.out.rs
      have he2 := HS.out.de
      rw [List.take_of_length_le (by rw [HN.out]; exact Nat.le_refl _)] at he1 he2
      obtain ⟨k, hk⟩ : ∃ k : Nat, min rs.length 64 = k := ⟨_, rfl⟩
      have hki : min (rs.length : Int) 64 = (k : Int) := by omega
      have OW := HS.out.own
      have hcl := OW.cap_le
      have hno : a' = none → cap' = 0 := fun e => by
        rcases OW.form with ⟨_, _, h⟩ | ⟨g, h, _⟩
        · exact h
        · rw [e] at h; cases h
      have hsl := fun W => sliceMax_run (P := Tryz.prog) rowU a' rs.length cap' k (by omega) W hno
      have b2 := HS.out.box.cell 2
      have f2 := HS.out.box.free 2
      have lR := HS.out.box.lt
      have lS := HS.out.res.lt
      have NX : Hid (∀ u, RdC (wr.setCell ⟨w.heap.size + 1, 2, none⟩ u) a' (ruC rs) ∧ Box (wr.setCell ⟨w.heap.size + 1, 2, none⟩ u) (w.heap.size + 1) #[.bool false, .bool false, u, .int .i64 d] 26 ∧ Box (wr.setCell ⟨w.heap.size + 1, 2, none⟩ u) w.heap.size #[.bool false, .bool false, .slice none 0 0, .int .i64 0] 26 ∧ Below w.heap.size w (wr.setCell ⟨w.heap.size + 1, 2, none⟩ u) ∧ (∀ g, a' = some ⟨g, 0, none⟩ → g ≠ w.heap.size ∧ w.heap.size ≤ g)) := Lib.hid (fun u =>
        ⟨(OW.other (fun g hg e => own_not_box OW HS.out.box (by decide) (by rw [hg]; exact congrArg some e.symm)) u).rdc, HS.out.box.set 2 _, HS.out.res.other (by simp) _, HS.out.bel.setCell (by simp) _,
          fun g hg => ⟨fun e => own_not_box OW HS.out.res (by decide) (by rw [hg]; exact congrArg some e.symm), by subst hg; exact OW.lt.1⟩⟩)
      have HRU := Lib.hid (show (mergeL (GA.map (·.1))).ru = rs.take 64 ∧ (mergeL (GA.map (·.1))).de = d from ⟨by rw [he1]; rfl, by rw [he2]; rfl⟩)
      clear HS he1 he2 OW hno hcl
      go_upto_region 9 with fail
      go_upto_region 10 with fail
      obtain ⟨w4, hw4⟩ : ∃ W, wr.setCell ⟨w.heap.size + 1, 2, none⟩ (.slice a' k k) = W := ⟨_, rfl⟩
      rw [hw4]
      obtain ⟨n1, n2, n3, n4, n5⟩ := NX.out (.slice a' k k)
      rw [hw4] at n1 n2 n3 n4
      have c0 := n2.cell 0
      have c1 := n2.cell 1
      have c2 := n2.cell 2
      have c3 := n2.cell 3
      have s0 := n3.cell 0
      have s1 := n3.cell 1
      have s2 := n3.cell 2
      have s3 := n3.cell 3
      have t0 := n3.free 0
      have t1 := n3.free 1
      have t2 := n3.free 2
      have t3 := n3.free 3
      have lS4 := n3.lt
      have NQ := Lib.hid (And.intro n1 (And.intro n4 n5))
      clear hw4 NX n1 n2 n3 n4 n5 b2 f2 lR lS
      have FIN : Hid (∀ (u0 u1 u3 : Value) (p0 p1 p2 p3 : Addr), p0.block = w.heap.size → p1.block = w.heap.size → p2.block = w.heap.size → p3.block = w.heap.size → RoP w (mergeL (GA.map (·.1))) (.returned (.agg #[.bool false, .bool false, .slice a' k k, .int .i64 d])) ((((w4.setCell p0 u0).setCell p1 u1).setCell p2 (.slice a' k k)).setCell p3 u3)) := Lib.hid (fun u0 u1 u3 p0 p1 p2 p3 e0 e1 e2 e3 => by
        obtain ⟨r1, r2, r3⟩ := NQ.out
        have hlen : (rs.take 64).length = k := by rw [List.length_take]; omega
        refine ⟨a', k, ?_, ?_, ?_, ?_, fun g hg => (r3 g hg).2, ?_⟩
        · rw [HRU.out.1, HRU.out.2, hlen]; rfl
        · rw [HRU.out.1, ruC_take]
          exact ((((r1.take _).other (fun g hg => e0 ▸ (r3 g hg).1) _).other (fun g hg => e1 ▸ (r3 g hg).1) _).other (fun g hg => e2 ▸ (r3 g hg).1) _).other (fun g hg => e3 ▸ (r3 g hg).1) _
        · rw [HRU.out.1, hlen]; exact Nat.le_refl _
        · omega
        · exact (((r2.setCell (by omega) _).setCell (by omega) _).setCell (by omega) _).setCell (by omega) _)
      clear NQ
      go_wp2
      exact bodyPost_ret (v := .agg #[.bool false, .bool false, .slice a' k k, .int .i64 d]) (by simp [results, Tryz.results33, go_sem, s0, s1, s2, s3]) rfl (FIN.out _ _ _ _ _ _ _ rfl rfl rfl rfl)
end Go.Proofs.YtodlecjbpmggiaaGreatDoor
