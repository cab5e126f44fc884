/- Package heap: moving an entry down; putting it where it belongs. -/
import Derived.Test.YtdkghinjpnelhaaHeapRise
namespace Go.Proofs.Ytdkghinjpnelhaa
open Go.RowKit Go.Maps Go.WideMaps

/-- On the way down: from place i, now at place j. -/
structure SinkI (w wx : World) (B p bm : Nat) (a : Option Addr) (cap : Nat) (es : Ents) (N : Nat) (wk : Int) (i j : Nat) (es' : Ents) (f' : Int → Option Nat) (N' : Nat) (wk' : Int) : Prop where
  hp : Hp wx B p bm a cap es' f' N' wk'
  con : Con es' f'
  mem : ∀ z, z ∈ es' ↔ z ∈ es
  len : es'.length = es.length
  inv : Down es' j
  cnt : N' + 2 * i ≤ N + 2 * j
  work : wk' + 2 * digs (i + 1) ≤ wk + 2 * digs (j + 1)
  lo : wk ≤ wk'
  turn : Turn p bm a w a wx

theorem SinkI.step {w wx wz : World} {B p bm : Nat} {a : Option Addr} {cap : Nat} {es : Ents} {N : Nat} {wk : Int} {i j c : Nat} {es' : Ents} {f' : Int → Option Nat} {N' : Nat} {wk' wk2 : Int} (h : SinkI w wx B p bm a cap es N wk i j es' f' N' wk') (hc0 : 0 < c) (hcj : (c - 1) / 2 = j) {x y : Int × Int} (hx : es'[j]? = some x) (hy : es'[c]? = some y) (hl : lt y x)
    (ho : ∀ o u, 0 < o → (o - 1) / 2 = j → es'[o]? = some u → ¬ lt u y) (hw : wk' ≤ wk2) (hw2 : wk2 ≤ wk' + 2)
    (hz : Hp wz B p bm a cap (swp es' j c x y) (upd (upd f' y.1 (some j)) x.1 (some c)) (N' + 2) wk2) (tz : Turn p bm a wx a wz) :
    SinkI w wz B p bm a cap es N wk i c (swp es' j c x y) (upd (upd f' y.1 (some j)) x.1 (some c)) (N' + 2) wk2 := by
  refine ⟨hz, h.con.swap hx hy (by omega), fun z => (swp_mem hx hy z).trans (h.mem z), (swp_len _ _ _ _ _).trans h.len, sink_step h.inv hc0 hcj hx hy hl ho, by have := h.cnt; omega, ?_, by have := h.lo; omega, h.turn.trans tz⟩
  have h1 := h.work
  have h2 := digs_up (a := c + 1) (b := j + 1) (by omega) (by omega)
  omega
/-- What has become of a heap whose entry at i was moved down. -/
def SinkP (w w' : World) (B p bm : Nat) (a : Option Addr) (cap : Nat) (es : Ents) (N : Nat) (wk : Int) (i : Nat) (es' : Ents) (f' : Int → Option Nat) (N' : Nat) (wk' : Int) : Prop :=
  Hp w' B p bm a cap es' f' N' wk' ∧ Con es' f' ∧ (∀ z, z ∈ es' ↔ z ∈ es) ∧ es'.length = es.length ∧ Heaped es' ∧ N' ≤ N + 2 * es.length ∧ wk ≤ wk' ∧ wk' + 2 * digs (i + 1) ≤ wk + 2 * digs es.length ∧ Turn p bm a w a w'
theorem SinkI.done {w wx wz : World} {B p bm : Nat} {a : Option Addr} {cap : Nat} {es : Ents} {N : Nat} {wk : Int} {i j : Nat} {es' : Ents} {f' : Int → Option Nat} {N' : Nat} {wk' : Int} (h : SinkI w wx B p bm a cap es N wk i j es' f' N' wk') (hj : j < es'.length) (wk2 : Int)
    (hz : Hp wz B p bm a cap es' f' N' wk2) (tz : Turn p bm a wx a wz) (hw : wk' ≤ wk2) (he : es'.length ≤ 2 * j + 1 ∧ wk2 = wk' ∨ 2 * j + 1 < es'.length ∧ wk2 ≤ wk' + 2 ∧ ∀ x y i, 0 < i → (i - 1) / 2 = j → es'[i]? = some x → es'[j]? = some y → ¬ lt x y) : SinkP w wz B p bm a cap es N wk i es' f' N' wk2 := by
  have h1 := h.work
  have h2 := h.lo
  have h3 := h.cnt
  have h4 := h.len
  refine ⟨hz, h.con, h.mem, h.len, down_end h.inv ?_, by omega, by omega, ?_, h.turn.trans tz⟩
  · intro m x y hm hmj hx hy
    rcases he with ⟨e, _⟩ | ⟨_, _, e⟩
    · have := (List.getElem?_eq_some_iff.1 hx).1
      omega
    · exact e x y m hm hmj hx hy
  · rcases he with ⟨e, e2⟩ | ⟨e, e2, _⟩
    · have := digs_mono (a := j + 1) (b := es.length) (by omega)
      omega
    · have := digs_mono (a := 2 * (j + 1)) (b := es.length) (by omega)
      have := digs_up (a := 2 * (j + 1)) (b := j + 1) (by omega) (by omega)
      omega
/-- The children of a place. -/
theorem kids {m j : Nat} (h0 : 0 < m) (h : (m - 1) / 2 = j) : m = 2 * j + 1 ∨ m = 2 * j + 2 := by omega

set_option maxHeartbeats 2000000 in
theorem sink_at {w : World} {B p bm : Nat} {a : Option Addr} {cap : Nat} {es : Ents} {f : Int → Option Nat} {N : Nat} {wk : Int} (h : Hp w B p bm a cap es f N wk) (hc : Con es f) (i : Nat) (hi : i < es.length) (ha : Down es i) (hl : es.length < 1000) (hN : N < 10000000) (hw0 : 0 ≤ wk) (hw : wk < 10000000) :
    Calls Try.prog 30 #[.pointer (some ⟨p, 0, none⟩), .int .i64 i] w fun r w' => ∃ (es' : Ents) (f' : Int → Option Nat) (N' : Nat) (wk' : Int), r = .returned (.tuple #[]) ∧ SinkP w w' B p bm a cap es N wk i es' f' N' wk' := by
  have HI := Lib.hid (show SinkI w w B p bm a cap es N wk i i es f N wk from ⟨h, hc, fun _ => Iff.rfl, rfl, ha, Nat.le_refl _, Int.le_refl _, Int.le_refl _, Turn.refl _ _ _ _⟩)
  clear h hc ha
  go_enter Try.func30, Try.ntmps30
  go_wp2_with fail
  go_loopw [1, 4, 5] (fun pv _ _ wx => ∃ (j : Nat) (es' : Ents) (f' : Int → Option Nat) (N' : Nat) (wk' : Int), j < es.length ∧ pv = .int .i64 j ∧ Hid (SinkI w wx B p bm a cap es N wk i j es' f' N' wk')) (fun pv _ _ _ => es.length - (intOf pv).toNat)
  case atStart => exact ⟨i, es, f, N, wk, by omega, rfl, HI⟩
  case round =>
    obtain ⟨j, es', f', N', wk', hji, rfl, HR⟩ := hrel
    clear HI
    have hlen := HR.out.len
    have hcn := HR.out.cnt
    have hlo := HR.out.lo
    have hwu : wk' < 100000000 := by have := HR.out.work; have := digs_le (j + 1); omega
    have hw0' : 0 ≤ wk' := by omega
    obtain ⟨lb, cb, fb⟩ := HR.out.hp.box.facts
    by_cases hj : 2 * j + 1 < es.length
    · have hd1 : decide ((es'.length : Int) ≤ 2 * (j : Int) + 1) = false := decide_eq_false (by omega)
      obtain ⟨x, hx⟩ : ∃ x, es'[j]? = some x := ⟨_, List.getElem?_eq_getElem (by omega)⟩
      obtain ⟨y, hy⟩ : ∃ y, es'[2 * j + 1]? = some y := ⟨_, List.getElem?_eq_getElem (by omega)⟩
      have HX := Lib.hid hx
      have HY := Lib.hid hy
      clear hx hy
      by_cases hj2 : 2 * j + 2 < es.length
      · have hd2 : decide (2 * (j : Int) + 2 < (es'.length : Int)) = true := decide_eq_true (by omega)
        obtain ⟨z, hz⟩ : ∃ z, es'[2 * j + 2]? = some z := ⟨_, List.getElem?_eq_getElem (by omega)⟩
        have HZ := Lib.hid hz
        clear hz
        go_wp2_with fail
        refine (less_as HR.out.hp (2 * j + 2) (2 * j + 1) _ _ (by omega) (by omega) z y HZ.out HY.out (by omega) hw0' (by omega)).mono ?_
        rintro r w1 ⟨b, hb, rfl, h1, t1⟩
        have H1 := Lib.hid h1
        have T1 := Lib.hid t1
        have HB := Lib.hid hb
        clear h1 t1 hb lb cb fb
        cases b with
        | true =>
          have HL := Lib.hid (show lt z y by simpa using HB.out)
          clear HB
          go_wp2_with fail
          refine (less_as H1.out (2 * j + 2) j _ _ (by omega) rfl z x HZ.out HX.out (by omega) (by omega) (by omega)).mono ?_
          rintro r w2 ⟨b, hb, rfl, h2, t2⟩
          have H2 := Lib.hid h2
          have T2 := Lib.hid t2
          have HB2 := Lib.hid hb
          clear h2 t2 hb
          have HO : Hid (∀ o u, 0 < o → (o - 1) / 2 = j → es'[o]? = some u → ¬ lt u z) := Lib.hid (by
            intro o u ho0 hoj hu
            rcases kids ho0 hoj with rfl | rfl
            · have e : u = y := by have := HY.out; rw [hu] at this; injection this
              subst e
              exact lt_not HL.out
            · have e : u = z := by have := HZ.out; rw [hu] at this; injection this
              subst e
              exact (fun e => lt_not e e))
          cases b with
          | true =>
            go_wp2_with fail
            refine (swap_as H2.out j (2 * j + 2) _ _ rfl (by omega) x z HX.out HZ.out (by omega) (by omega)).mono ?_
            rintro r w3 ⟨rfl, h3, t3⟩
            have HS := Lib.hid (HR.out.step (c := 2 * j + 2) (by omega) (by omega) HX.out HZ.out (by simpa using HB2.out) HO.out (by omega) (by omega) h3 (T1.out.trans (T2.out.trans t3)))
            clear h3 t3
            go_wp2_with fail
            go_roundw
            case rel => exact ⟨2 * j + 2, _, _, _, _, by omega, by congr 1 <;> omega, HS⟩
            case measure => simp [intOf]; omega
          | false =>
            go_wp2_with fail
            refine bodyPost_ret (v := .tuple #[]) (by simp [results, Try.results30, go_sem]) rfl ⟨_, _, _, _, rfl, HR.out.done (by omega) _ H2.out (T1.out.trans T2.out) (by omega) (Or.inr ⟨by omega, by omega, fun u v m hm hmj hu hv => ?_⟩)⟩
            have hn : ¬ lt z x := by simpa using HB2.out
            have e : v = x := by have := HX.out; rw [hv] at this; injection this
            subst e
            exact nlt_trans hn (HO.out m u hm hmj hu)
        | false =>
          have HL := Lib.hid (show ¬ lt z y by simpa using HB.out)
          clear HB
          go_wp2_with fail
          refine (less_as H1.out (2 * j + 1) j _ _ (by omega) rfl y x HY.out HX.out (by omega) (by omega) (by omega)).mono ?_
          rintro r w2 ⟨b, hb, rfl, h2, t2⟩
          have H2 := Lib.hid h2
          have T2 := Lib.hid t2
          have HB2 := Lib.hid hb
          clear h2 t2 hb
          have HO : Hid (∀ o u, 0 < o → (o - 1) / 2 = j → es'[o]? = some u → ¬ lt u y) := Lib.hid (by
            intro o u ho0 hoj hu
            rcases kids ho0 hoj with rfl | rfl
            · have e : u = y := by have := HY.out; rw [hu] at this; injection this
              subst e
              exact (fun e => lt_not e e)
            · have e : u = z := by have := HZ.out; rw [hu] at this; injection this
              subst e
              exact HL.out)
          cases b with
          | true =>
            go_wp2_with fail
            refine (swap_as H2.out j (2 * j + 1) _ _ rfl (by omega) x y HX.out HY.out (by omega) (by omega)).mono ?_
            rintro r w3 ⟨rfl, h3, t3⟩
            have HS := Lib.hid (HR.out.step (c := 2 * j + 1) (by omega) (by omega) HX.out HY.out (by simpa using HB2.out) HO.out (by omega) (by omega) h3 (T1.out.trans (T2.out.trans t3)))
            clear h3 t3
            go_wp2_with fail
            go_roundw
            case rel => exact ⟨2 * j + 1, _, _, _, _, by omega, by congr 1 <;> omega, HS⟩
            case measure => simp [intOf]; omega
          | false =>
            go_wp2_with fail
            refine bodyPost_ret (v := .tuple #[]) (by simp [results, Try.results30, go_sem]) rfl ⟨_, _, _, _, rfl, HR.out.done (by omega) _ H2.out (T1.out.trans T2.out) (by omega) (Or.inr ⟨by omega, by omega, fun u v m hm hmj hu hv => ?_⟩)⟩
            have hn : ¬ lt y x := by simpa using HB2.out
            have e : v = x := by have := HX.out; rw [hv] at this; injection this
            subst e
            exact nlt_trans hn (HO.out m u hm hmj hu)
      · have hd2 : decide (2 * (j : Int) + 2 < (es'.length : Int)) = false := decide_eq_false (by omega)
        go_wp2_with fail
        refine (less_as HR.out.hp (2 * j + 1) j _ _ (by omega) rfl y x HY.out HX.out (by omega) (by omega) (by omega)).mono ?_
        rintro r w2 ⟨b, hb, rfl, h2, t2⟩
        have H2 := Lib.hid h2
        have T2 := Lib.hid t2
        have HB2 := Lib.hid hb
        clear h2 t2 hb
        have HO : Hid (∀ o u, 0 < o → (o - 1) / 2 = j → es'[o]? = some u → ¬ lt u y) := Lib.hid (by
          intro o u ho0 hoj hu
          rcases kids ho0 hoj with rfl | rfl
          · have e : u = y := by have := HY.out; rw [hu] at this; injection this
            subst e
            exact (fun e => lt_not e e)
          · have := (List.getElem?_eq_some_iff.1 hu).1
            omega)
        cases b with
        | true =>
          go_wp2_with fail
          refine (swap_as H2.out j (2 * j + 1) _ _ rfl (by omega) x y HX.out HY.out (by omega) (by omega)).mono ?_
          rintro r w3 ⟨rfl, h3, t3⟩
          have HS := Lib.hid (HR.out.step (c := 2 * j + 1) (by omega) (by omega) HX.out HY.out (by simpa using HB2.out) HO.out (by omega) (by omega) h3 (T2.out.trans t3))
          clear h3 t3
          go_wp2_with fail
          go_roundw
          case rel => exact ⟨2 * j + 1, _, _, _, _, by omega, by congr 1 <;> omega, HS⟩
          case measure => simp [intOf]; omega
        | false =>
          go_wp2_with fail
          refine bodyPost_ret (v := .tuple #[]) (by simp [results, Try.results30, go_sem]) rfl ⟨_, _, _, _, rfl, HR.out.done (by omega) _ H2.out (T2.out) (by omega) (Or.inr ⟨by omega, by omega, fun u v m hm hmj hu hv => ?_⟩)⟩
          have hn : ¬ lt y x := by simpa using HB2.out
          have e : v = x := by have := HX.out; rw [hv] at this; injection this
          subst e
          exact nlt_trans hn (HO.out m u hm hmj hu)
    · have hd1 : decide ((es'.length : Int) ≤ 2 * (j : Int) + 1) = true := decide_eq_true (by omega)
      go_wp2_with fail
      exact bodyPost_ret (v := .tuple #[]) (by simp [results, Try.results30, go_sem]) rfl ⟨_, _, _, _, rfl, HR.out.done (by omega) _ HR.out.hp (Turn.refl _ _ _ _) (Int.le_refl _) (Or.inl ⟨by omega, rfl⟩)⟩
end Go.Proofs.Ytdkghinjpnelhaa
