/- Gaps: any two that went to one host, none of its own between. -/
import Derived.Test.YtelakgbpfnlpiaaAudOpen
namespace Go.Proofs.Ytelakgbpfnlpiaa
open Go.RowKit

/-- The next one that went to this host comes late enough. -/
def nextOk (floor : Int) (h : ByteArray) (t : Int) : List Ev → Prop
  | [] => True
  | x :: r => if wentE x = true ∧ x.host = h then ¬ subI x.time t < floor else nextOk floor h t r
def wantP (floor : Int) : List Ev → Prop
  | [] => True
  | e :: r => (wentE e = true → nextOk floor e.host e.time r) ∧ wantP floor r
theorem setL_same (L : Lasts) (h : ByteArray) (t : Int) : setL L h t h = some t := by simp [setL]
theorem setL_other (L : Lasts) {h s : ByteArray} (t : Int) (hne : s ≠ h) : setL L h t s = L s := by
  unfold setL
  rw [if_neg]
  intro e
  exact hne (ByteArray.ext e)
theorem gapsL_iff (floor : Int) : ∀ (es : List Ev) (L : Lasts), gapsL floor L (es.filter wentE) = true ↔ wantP floor es ∧ ∀ h t, L h = some t → nextOk floor h t es
  | [], L => by simp [gapsL, wantP, nextOk]
  | e :: r, L => by
    cases hw : wentE e with
    | false =>
      rw [List.filter_cons_of_neg (by rw [hw]; decide), gapsL_iff floor r L]
      simp [wantP, nextOk, hw]
    | true =>
      rw [List.filter_cons_of_pos hw]
      have key : (nextOk floor e.host e.time r ∧ ∀ h t, h ≠ e.host → L h = some t → nextOk floor h t r) ↔ ∀ h t, setL L e.host e.time h = some t → nextOk floor h t r := by
        constructor
        · rintro ⟨h1, h2⟩ h t hs
          by_cases e1 : h = e.host
          · subst e1
            rw [setL_same] at hs
            cases hs
            exact h1
          · rw [setL_other L _ e1] at hs
            exact h2 h t e1 hs
        · intro h
          refine ⟨h _ _ (setL_same L e.host e.time), fun s t hne hs => h s t ?_⟩
          rw [setL_other L _ hne]
          exact hs
      have key2 : (∀ h t, L h = some t → nextOk floor h t (e :: r)) ↔ (∀ t, L e.host = some t → ¬ subI e.time t < floor) ∧ ∀ h t, h ≠ e.host → L h = some t → nextOk floor h t r := by
        constructor
        · intro h
          refine ⟨fun t ht => ?_, fun s t hne hs => ?_⟩
          · have := h _ t ht
            rw [nextOk, if_pos ⟨hw, rfl⟩] at this
            exact this
          · have := h s t hs
            rw [nextOk, if_neg (fun h => hne h.2.symm)] at this
            exact this
        · rintro ⟨h1, h2⟩ h t ht
          rw [nextOk]
          by_cases e1 : e.host = h
          · rw [if_pos ⟨hw, e1⟩]
            subst e1
            exact h1 t ht
          · rw [if_neg (fun h => e1 h.2)]
            exact h2 h t (Ne.symm e1) ht
      rw [key2]
      have step : gapsL floor L (e :: r.filter wentE) = true ↔ (∀ t, L e.host = some t → ¬ subI e.time t < floor) ∧ gapsL floor (setL L e.host e.time) (r.filter wentE) = true := by
        rw [gapsL]
        cases hL : L e.host with
        | none => simp
        | some t =>
          by_cases hlt : subI e.time t < floor
          · show (if subI e.time t < floor then false else gapsL floor (setL L e.host e.time) (r.filter wentE)) = true ↔ _
            rw [if_pos hlt]
            constructor
            · intro h
              cases h
            · rintro ⟨h, _⟩
              exact absurd hlt (h t rfl)
          · show (if subI e.time t < floor then false else gapsL floor (setL L e.host e.time) (r.filter wentE)) = true ↔ _
            rw [if_neg hlt]
            constructor
            · intro h
              exact ⟨fun t' e => by cases e; exact hlt, h⟩
            · exact fun h => h.2
      rw [step, gapsL_iff floor r, ← key, wantP]
      constructor
      · rintro ⟨h1, h2, h3, h4⟩
        exact ⟨⟨fun _ => h3, h2⟩, h1, h4⟩
      · rintro ⟨⟨h1, h2⟩, h3, h4⟩
        exact ⟨h3, h2, h1 hw, h4⟩
theorem gaps_is {es : List Ev} {floor : Int} {b : Bool} (h : b = true ↔ wantP floor es) : gapsL floor (fun _ => none) (es.filter wentE) = b := by
  have h1 := gapsL_iff floor es (fun _ => none)
  have h2 : gapsL floor (fun _ => none) (es.filter wentE) = true ↔ wantP floor es := by
    rw [h1]
    constructor
    · exact fun h => h.1
    · exact fun h => ⟨h, fun _ _ e => by cases e⟩
  cases b with
  | true => exact h2.2 (h.1 rfl)
  | false =>
    cases hv : gapsL floor (fun _ => none) (es.filter wentE) with
    | false => rfl
    | true => exact absurd (h.2 (h2.1 hv)) (by decide)

/-- The law's own reckoning: the first k are in order. -/
def WantK (floor : Int) (es : List Ev) (k : Nat) : Prop := ∀ i e, i < k → es[i]? = some e → wentE e = true → nextOk floor e.host e.time (es.drop (i + 1))
theorem wantK_all (floor : Int) : ∀ (es : List Ev), WantK floor es es.length ↔ wantP floor es
  | [] => by simp [WantK, wantP]
  | e :: r => by
    rw [wantP, ← wantK_all floor r]
    constructor
    · intro h
      refine ⟨fun hw => by simpa using h 0 e (by simp) (by simp) hw, fun i x hi hx hw => ?_⟩
      have := h (i + 1) x (by simp; omega) (by simpa using hx) hw
      simpa using this
    · rintro ⟨h1, h2⟩ i x hi hx hw
      cases i with
      | zero =>
        simp at hx
        subst hx
        simpa using h1 hw
      | succ i =>
        have := h2 i x (by simp at hi; omega) (by simpa using hx) hw
        simpa using this
theorem wantK_step {floor : Int} {es : List Ev} {k : Nat} {e : Ev} (he : es[k]? = some e) : WantK floor es (k + 1) ↔ WantK floor es k ∧ (wentE e = true → nextOk floor e.host e.time (es.drop (k + 1))) := by
  constructor
  · intro h
    exact ⟨fun i x hi => h i x (by omega), fun hw => h k e (by omega) he hw⟩
  · rintro ⟨h1, h2⟩ i x hi hx hw
    by_cases e1 : i = k
    · subst e1
      rw [he] at hx
      cases hx
      exact h2 hw
    · exact h1 i x (by omega) hx hw
theorem sub_ref (a b : Int) : addI a (-clampI b) = subI a b := by
  have h1 := clampI_lo b
  have h2 := clampI_hi b
  unfold addI subI
  rw [clampI_id (a := -clampI b) (by omega) (by omega)]
  rfl
set_option maxHeartbeats 400000 in
theorem went_at (kd tm id : Int) (ho pa : ByteArray) (pr la : Int) (v : Bool) (h : wentE ⟨kd, tm, id, ho, pa, pr, la⟩ = v) (w : World) : Calls Try.prog 31 #[.agg #[.int .i64 kd, .int .i64 tm, .int .i64 id, .string ho, .string pa, .int .i64 pr, .int .i64 la]] w fun e w' => e = .returned (.bool v) ∧ Below w.heap.size w w' := by
  unfold wentE at h
  simp only at h
  by_cases h1 : kd = 1
  · have hd : (kd == 1) = true := by simpa using h1
    rw [hd] at h
    simp at h
    subst h
    clear h1
    go_enter Try.func31, Try.ntmps31
    go_wp2
    go_ret
    exact ⟨rfl, (Below.refl _ _).alloc (Nat.le_refl _) _⟩
  · have hd : (kd == 1) = false := by simpa using h1
    rw [hd] at h
    by_cases h2 : kd = 2
    · have hd2 : (kd == 2) = true := by simpa using h2
      rw [hd2] at h
      simp at h
      subst h
      clear h1 h2
      go_enter Try.func31, Try.ntmps31
      go_wp2
      go_ret
      exact ⟨rfl, (Below.refl _ _).alloc (Nat.le_refl _) _⟩
    · have hd2 : (kd == 2) = false := by simpa using h2
      rw [hd2] at h
      simp at h
      subst h
      clear h1 h2
      go_enter Try.func31, Try.ntmps31
      go_wp2
      go_ret
      exact ⟨rfl, (Below.refl _ _).alloc (Nat.le_refl _) _⟩
end Go.Proofs.Ytelakgbpfnlpiaa
