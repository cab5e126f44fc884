/- Package heap: moving an entry up. -/
import Derived.Test.YtdkghinjpnelhaaHeapLess
namespace Go.Proofs.Ytdkghinjpnelhaa
open Go.RowKit Go.Maps Go.WideMaps

/-- The places that are noted are those of the entries. -/
def Con (es : Ents) (f : Int → Option Nat) : Prop := ∀ id i, f id = some i ↔ ∃ k, es[i]? = some (id, k)
theorem Con.swap {es : Ents} {f : Int → Option Nat} (h : Con es f) {i j : Nat} {x y : Int × Int} (hi : es[i]? = some x) (hj : es[j]? = some y) (hne : i ≠ j) : Con (swp es i j x y) (upd (upd f y.1 (some i)) x.1 (some j)) := by
  have key := swp_at hi hj
  have fx : f x.1 = some i := (h x.1 i).2 ⟨x.2, hi⟩
  have fy : f y.1 = some j := (h y.1 j).2 ⟨y.2, hj⟩
  have hxy : x.1 ≠ y.1 := fun e => by rw [e, fy] at fx; injection fx with fx; exact hne fx.symm
  intro id m
  unfold upd
  by_cases e1 : id = x.1
  · subst e1
    rw [if_pos rfl]
    constructor
    · intro e
      injection e with e
      subst e
      exact ⟨x.2, by rw [key, if_pos rfl]⟩
    · rintro ⟨k, hk⟩
      rw [key] at hk
      by_cases e2 : m = j
      · rw [e2]
      · rw [if_neg e2] at hk
        by_cases e3 : m = i
        · rw [if_pos e3] at hk
          injection hk with hk
          exact absurd (by rw [hk]) hxy.symm
        · rw [if_neg e3] at hk
          have := (h x.1 m).2 ⟨k, hk⟩
          rw [fx] at this
          injection this with this
          exact absurd this.symm e3
  · rw [if_neg e1]
    by_cases e2 : id = y.1
    · subst e2
      rw [if_pos rfl]
      constructor
      · intro e
        injection e with e
        subst e
        exact ⟨y.2, by rw [key, if_neg hne, if_pos rfl]⟩
      · rintro ⟨k, hk⟩
        rw [key] at hk
        by_cases e2 : m = j
        · rw [if_pos e2] at hk
          injection hk with hk
          exact absurd (by rw [hk]) hxy
        · rw [if_neg e2] at hk
          by_cases e3 : m = i
          · rw [e3]
          · rw [if_neg e3] at hk
            have := (h y.1 m).2 ⟨k, hk⟩
            rw [fy] at this
            injection this with this
            exact absurd this.symm e2
    · rw [if_neg e2, h id m, key]
      constructor
      · rintro ⟨k, hk⟩
        refine ⟨k, ?_⟩
        rw [if_neg, if_neg, hk]
        · intro e
          subst e
          rw [hi] at hk
          injection hk with hk
          exact e1 (by rw [hk])
        · intro e
          subst e
          rw [hj] at hk
          injection hk with hk
          exact e2 (by rw [hk])
      · rintro ⟨k, hk⟩
        split at hk
        · injection hk with hk
          exact absurd (by rw [hk]) e1
        · split at hk
          · injection hk with hk
            exact absurd (by rw [hk]) e2
          · exact ⟨k, hk⟩

/-- On the way up: from place i, now at place j. -/
structure RiseI (w wx : World) (B p bm : Nat) (a : Option Addr) (cap : Nat) (es : Ents) (N : Nat) (wk : Int) (i j : Nat) (es' : Ents) (f' : Int → Option Nat) (N' : Nat) (wk' : Int) : Prop where
  hp : Hp wx B p bm a cap es' f' N' wk'
  con : Con es' f'
  mem : ∀ z, z ∈ es' ↔ z ∈ es
  len : es'.length = es.length
  inv : j = i ∧ es' = es ∧ Almost es' j ∨ j ≠ i ∧ Up es' j ∧ wk + 1 ≤ wk'
  cnt : N' + 2 * j ≤ N + 2 * i
  work : wk' + digs (j + 1) ≤ wk + digs (i + 1)
  lo : wk ≤ wk'
  turn : Turn p bm a w a wx

theorem RiseI.step {w wx wy wz : World} {B p bm : Nat} {a : Option Addr} {cap : Nat} {es : Ents} {N : Nat} {wk : Int} {i j : Nat} {es' : Ents} {f' : Int → Option Nat} {N' : Nat} {wk' : Int} (h : RiseI w wx B p bm a cap es N wk i j es' f' N' wk') (hji : j ≤ i) (hj : 0 < j) {x y : Int × Int} (hx : es'[j]? = some x) (hy : es'[(j - 1) / 2]? = some y) (hl : lt x y)
    (ty : Turn p bm a wx a wy) (hz : Hp wz B p bm a cap (swp es' j ((j - 1) / 2) x y) (upd (upd f' y.1 (some j)) x.1 (some ((j - 1) / 2))) (N' + 2) (wk' + 1)) (tz : Turn p bm a wy a wz) :
    RiseI w wz B p bm a cap es N wk i ((j - 1) / 2) (swp es' j ((j - 1) / 2) x y) (upd (upd f' y.1 (some j)) x.1 (some ((j - 1) / 2))) (N' + 2) (wk' + 1) := by
  have hal : Almost es' j := by
    rcases h.inv with ⟨_, _, h⟩ | ⟨_, h, _⟩
    · exact h
    · exact h.almost
  refine ⟨hz, h.con.swap hx hy (by omega), fun z => (swp_mem hx hy z).trans (h.mem z), (swp_len _ _ _ _ _).trans h.len, Or.inr ⟨by omega, rise_step hal hj hx hy hl, by have := h.lo; omega⟩, by have := h.cnt; omega, ?_, by have := h.lo; omega, (h.turn.trans ty).trans tz⟩
  have h1 := h.work
  have h2 := digs_up (a := j + 1) (b := (j - 1) / 2 + 1) (by omega) (by omega)
  omega

/-- What has become of a heap whose entry at i was moved up, or not. -/
def RiseP (w w' : World) (B p bm : Nat) (a : Option Addr) (cap : Nat) (es : Ents) (N : Nat) (wk : Int) (i : Nat) (b : Bool) (es' : Ents) (f' : Int → Option Nat) (N' : Nat) (wk' : Int) : Prop :=
  Hp w' B p bm a cap es' f' N' wk' ∧ Con es' f' ∧ (∀ z, z ∈ es' ↔ z ∈ es) ∧ es'.length = es.length ∧ (b = true ∧ Heaped es' ∨ b = false ∧ es' = es ∧ Down es i) ∧ N' ≤ N + 2 * i ∧ wk ≤ wk' ∧ (0 < i → wk + 1 ≤ wk') ∧ wk' ≤ wk + digs (i + 1) ∧ Turn p bm a w a w'
theorem RiseI.done {w wx wz : World} {B p bm : Nat} {a : Option Addr} {cap : Nat} {es : Ents} {N : Nat} {wk : Int} {i j : Nat} {es' : Ents} {f' : Int → Option Nat} {N' : Nat} {wk' : Int} (h : RiseI w wx B p bm a cap es N wk i j es' f' N' wk') (b : Bool) (hb : j = i ∧ b = false ∨ j ≠ i ∧ b = true) (wk2 : Int)
    (hz : Hp wz B p bm a cap es' f' N' wk2) (tz : Turn p bm a wx a wz) (he : j = 0 ∧ wk2 = wk' ∨ 0 < j ∧ wk2 = wk' + 1 ∧ ∃ x y, es'[j]? = some x ∧ es'[(j - 1) / 2]? = some y ∧ ¬ lt x y) : RiseP w wz B p bm a cap es N wk i b es' f' N' wk2 := by
  have hd1 := digs_one (n := j + 1) (by omega)
  have h1 := h.work
  have h2 := h.lo
  have h3 := h.cnt
  have hend : j = 0 ∨ ∀ x y, es'[j]? = some x → es'[(j - 1) / 2]? = some y → ¬ lt x y := by
    rcases he with ⟨e, _⟩ | ⟨_, _, x, y, hx, hy, hn⟩
    · exact Or.inl e
    · refine Or.inr (fun x' y' hx' hy' => ?_)
      rw [hx] at hx'
      rw [hy] at hy'
      cases hx'
      cases hy'
      exact hn
  refine ⟨hz, h.con, h.mem, h.len, ?_, by omega, by rcases he with ⟨_, e⟩ | ⟨_, e, _⟩ <;> omega, fun hi => ?_, ?_, h.turn.trans tz⟩
  · rcases hb with ⟨e, rfl⟩ | ⟨e, rfl⟩
    · subst e
      rcases h.inv with ⟨_, rfl, ha⟩ | ⟨e, _⟩
      · exact Or.inr ⟨rfl, rfl, almost_end ha hend⟩
      · exact absurd rfl e
    · rcases h.inv with ⟨e', _⟩ | ⟨_, hu, _⟩
      · exact absurd e' e
      · exact Or.inl ⟨rfl, up_end hu hend⟩
  · rcases he with ⟨e0, e⟩ | ⟨_, e, _⟩
    · rcases h.inv with ⟨e', _⟩ | ⟨_, _, hu⟩
      · omega
      · omega
    · omega
  · rcases he with ⟨e0, e⟩ | ⟨e0, e, _⟩
    · omega
    · omega

set_option maxHeartbeats 1000000 in
theorem rise_at {w : World} {B p bm : Nat} {a : Option Addr} {cap : Nat} {es : Ents} {f : Int → Option Nat} {N : Nat} {wk : Int} (h : Hp w B p bm a cap es f N wk) (hc : Con es f) (i : Nat) (hi : i < es.length) (ha : Almost es i) (hl : es.length < 1000) (hN : N < 1000000) (hw0 : 0 ≤ wk) (hw : wk < 1000000) :
    Calls Try.prog 29 #[.pointer (some ⟨p, 0, none⟩), .int .i64 i] w fun r w' => ∃ (b : Bool) (es' : Ents) (f' : Int → Option Nat) (N' : Nat) (wk' : Int), r = .returned (.bool b) ∧ RiseP w w' B p bm a cap es N wk i b es' f' N' wk' := by
  have hd := digs_le (i + 1)
  have HI := Lib.hid (show RiseI w w B p bm a cap es N wk i i es f N wk from ⟨h, hc, fun _ => Iff.rfl, rfl, Or.inl ⟨rfl, rfl, ha⟩, Nat.le_refl _, Int.le_refl _, Int.le_refl _, Turn.refl _ _ _ _⟩)
  clear h hc ha
  go_enter Try.func29, Try.ntmps29
  go_wp2_with fail
  go_loopw [1, 6] (fun pv _ wx => ∃ (j : Nat) (es' : Ents) (f' : Int → Option Nat) (N' : Nat) (wk' : Int), j ≤ i ∧ pv = .int .i64 j ∧ Hid (RiseI w wx B p bm a cap es N wk i j es' f' N' wk')) (fun pv _ _ => (intOf pv).toNat)
  case atStart => exact ⟨i, es, f, N, wk, by omega, rfl, HI⟩
  case round =>
    obtain ⟨j, es', f', N', wk', hji, rfl, HR⟩ := hrel
    clear HI
    have hlen := HR.out.len
    have hcn := HR.out.cnt
    have hlo := HR.out.lo
    have hwu : wk' < 10000000 := by have := HR.out.work; omega
    by_cases hj : 0 < j
    · obtain ⟨x, hx⟩ : ∃ x, es'[j]? = some x := ⟨_, List.getElem?_eq_getElem (by omega)⟩
      obtain ⟨y, hy⟩ : ∃ y, es'[(j - 1) / 2]? = some y := ⟨_, List.getElem?_eq_getElem (by omega)⟩
      have HX := Lib.hid hx
      have HY := Lib.hid hy
      clear hx hy
      go_wp2_with fail
      have hw0' : 0 ≤ wk' := by omega
      refine (less_as HR.out.hp j ((j - 1) / 2) _ _ rfl (by omega) x y HX.out HY.out (by omega) hw0' (by omega)).mono ?_
      rintro r w1 ⟨b, hb, rfl, h1, t1⟩
      have H1 := Lib.hid h1
      have T1 := Lib.hid t1
      have HB := Lib.hid hb
      clear h1 t1 hb
      cases b with
      | true =>
        go_wp2_with fail
        refine (swap_as H1.out j ((j - 1) / 2) _ _ rfl (by omega) x y HX.out HY.out (by omega) (by omega)).mono ?_
        rintro r w2 ⟨rfl, h2, t2⟩
        have HS := Lib.hid (HR.out.step hji hj HX.out HY.out (by simpa using HB.out) T1.out h2 t2)
        clear h2 t2
        go_wp2_with fail
        go_roundw
        case rel => exact ⟨(j - 1) / 2, _, _, _, _, by omega, by congr 1; omega, HS⟩
        case measure => simp [intOf]; omega
      | false =>
        have hno : ¬ lt x y := fun e => by have := HB.out.2 e; cases this
        have HN := Lib.hid hno
        clear hno HB
        by_cases hji' : j = i
        · have hd1 : decide ((j : Int) = i) = true := decide_eq_true (by omega)
          subst hji'
          go_wp2_with fail
          exact bodyPost_ret (v := .bool false) (by simp [results, Try.results29, go_sem] <;> omega) rfl ⟨false, _, _, _, _, rfl, HR.out.done false (Or.inl ⟨rfl, rfl⟩) _ H1.out T1.out (Or.inr ⟨hj, rfl, x, y, HX.out, HY.out, HN.out⟩)⟩
        · have hd1 : decide ((j : Int) = i) = false := decide_eq_false (by omega)
          go_wp2_with fail
          exact bodyPost_ret (v := .bool true) (by simp [results, Try.results29, go_sem] <;> omega) rfl ⟨true, _, _, _, _, rfl, HR.out.done true (Or.inr ⟨hji', rfl⟩) _ H1.out T1.out (Or.inr ⟨hj, rfl, x, y, HX.out, HY.out, HN.out⟩)⟩
    · obtain rfl : j = 0 := by omega
      by_cases hji' : i = 0
      · subst hji'
        go_wp2_with fail
        exact bodyPost_ret (v := .bool false) (by simp [results, Try.results29, go_sem] <;> omega) rfl ⟨false, _, _, _, _, rfl, HR.out.done false (Or.inl ⟨rfl, rfl⟩) _ HR.out.hp (Turn.refl _ _ _ _) (Or.inl ⟨rfl, rfl⟩)⟩
      · go_wp2_with fail
        exact bodyPost_ret (v := .bool true) (by simp [results, Try.results29, go_sem] <;> omega) rfl ⟨true, _, _, _, _, rfl, HR.out.done true (Or.inr ⟨Ne.symm hji', rfl⟩) _ HR.out.hp (Turn.refl _ _ _ _) (Or.inl ⟨rfl, rfl⟩)⟩
end Go.Proofs.Ytdkghinjpnelhaa
