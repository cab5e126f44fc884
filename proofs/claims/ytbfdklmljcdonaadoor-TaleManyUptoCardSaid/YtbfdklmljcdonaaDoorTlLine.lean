/- Package tale: steps as lines and lines as steps. No program here. -/
import Derived.Test.YtbfdklmljcdonaaDoorTlMath
namespace Go.Proofs.YtbfdklmljcdonaaDoor
open Go

structure Fm where
  kind : Int
  word : Bt
  n : Nat
  text : Bool
  hs : Bool
  deriving DecidableEq
def fms : List Fm := [⟨1, [97, 100, 100], 2, true, false⟩, ⟨2, [99, 108, 111, 99, 107], 1, false, false⟩, ⟨3, [112, 111, 108, 108], 0, false, false⟩, ⟨4, [97, 110, 115, 119, 101, 114], 3, true, true⟩,
  ⟨5, [108, 111, 115, 116], 3, false, false⟩, ⟨6, [99, 97, 110, 99, 101, 108], 1, false, false⟩, ⟨7, [99, 114, 97, 115, 104], 1, false, false⟩, ⟨8, [102, 97, 117, 108, 116], 2, false, false⟩]
structure Sp where
  kind : Int
  a : Int
  b : Int
  c : Int
  text : Bt
  hs : List (Bt × Bt)
def numsS (x : Sp) : List Int := [x.a, x.b, x.c]
def covB (f : Fm) (x : Sp) : Bool := ((numsS x).drop f.n).all (fun n => n == 0) && ((f.text || x.text.isEmpty) && (f.hs || x.hs.isEmpty))
def hdW (hs : List (Bt × Bt)) : List Bt := hs.flatMap fun h => [hexW h.1, hexW h.2]
def wordsS (f : Fm) (x : Sp) : List Bt := f.word :: (((numsS x).take f.n).map Lib.itoa ++ ((if f.text then [hexW x.text] else []) ++ hdW x.hs))
def okB (x : Sp) (f : Fm) : Bool := f.kind == x.kind && covB f x
def lineS (x : Sp) : Option Bt := (fms.find? (okB x)).map fun f => Lib.join (wordsS f x) [32]
def RngS (x : Sp) : Prop := Rng x.a ∧ Rng x.b ∧ Rng x.c
/-! ### Reading -/
def numsW : Nat → List Bt → Option (List Int × List Bt)
  | 0, ws => some ([], ws)
  | _ + 1, [] => none
  | n + 1, w :: ws => match numW w with
    | none => none
    | some v => (numsW n ws).map fun p => (v :: p.1, p.2)
def decsW : List Bt → Option (List Bt)
  | [] => some []
  | w :: ws => match unW w with
    | none => none
    | some t => (decsW ws).map (t :: ·)
def prsW : List Bt → Option (List (Bt × Bt))
  | [] => some []
  | [_] => none
  | a :: b :: r => (prsW r).map ((a, b) :: ·)
def finW (f : Fm) (ns : List Int) (t : Bt) (ts : List Bt) : Option Sp :=
  if !f.hs && !ts.isEmpty then none else (prsW ts).map fun hs => ⟨f.kind, ns[0]?.getD 0, ns[1]?.getD 0, ns[2]?.getD 0, t, hs⟩
def textW (f : Fm) (ns : List Int) (ts : List Bt) : Option Sp :=
  if f.text then (match ts with | [] => none | t :: r => finW f ns t r) else finW f ns [] ts
def stepF (f : Fm) (ws : List Bt) : Option Sp := match numsW f.n ws with
  | none => none
  | some (ns, r) => match decsW r with
    | none => none
    | some ts => textW f ns ts
def stepW (w : Bt) (ws : List Bt) : Option Sp := match fms.find? (fun f => f.word == w) with
  | none => none
  | some f => stepF f ws
def stepS (l : Bt) : Option Sp := match spl l with
  | [] => none
  | w :: ws => stepW w ws
theorem numsW_some : ∀ {n : Nat} {ws : List Bt} {ns : List Int} {r : List Bt}, numsW n ws = some (ns, r) → ns.length = n ∧ ws = ns.map Lib.itoa ++ r ∧ ∀ v ∈ ns, Rng v
  | 0, ws, ns, r, h => by
    simp only [numsW] at h
    injection h with h
    injection h with h1 h2
    subst h1 h2
    simp
  | n + 1, [], ns, r, h => by cases h
  | n + 1, w :: ws, ns, r, h => by
    unfold numsW at h
    cases hv : numW w with
    | none => rw [hv] at h; cases h
    | some v =>
      rw [hv] at h
      simp only at h
      cases hr : numsW n ws with
      | none => rw [hr] at h; cases h
      | some p =>
        rw [hr, Option.map_some] at h
        injection h with h
        injection h with h1 h2
        obtain ⟨i1, i2, i3⟩ := numsW_some (ns := p.1) (r := p.2) hr
        obtain ⟨e1, e2⟩ := itoa_numW hv
        subst h1 h2
        refine ⟨by simp [i1], by rw [i2, e1]; rfl, fun x hx => ?_⟩
        rcases List.mem_cons.1 hx with rfl | hx
        · exact e2
        · exact i3 x hx
theorem numsW_map : ∀ (ns : List Int) (r : List Bt), (∀ v ∈ ns, Rng v) → numsW ns.length (ns.map Lib.itoa ++ r) = some (ns, r)
  | [], r, _ => rfl
  | v :: ns, r, h => by
    have ih := numsW_map ns r (fun x hx => h x (List.mem_cons_of_mem _ hx))
    show numsW (ns.length + 1) (Lib.itoa v :: (ns.map Lib.itoa ++ r)) = _
    unfold numsW
    rw [numW_itoa (h v (List.mem_cons_self ..)), ih]
    rfl
theorem decsW_some : ∀ {ws ts : List Bt}, decsW ws = some ts → ws = ts.map hexW
  | [], ts, h => by injection h with h; subst h; rfl
  | w :: ws, ts, h => by
    unfold decsW at h
    cases hv : unW w with
    | none => rw [hv] at h; cases h
    | some t =>
      rw [hv] at h
      simp only at h
      cases hr : decsW ws with
      | none => rw [hr] at h; cases h
      | some p =>
        rw [hr, Option.map_some] at h
        injection h with h
        subst h
        rw [decsW_some hr, hex_unW hv]
        rfl
theorem decsW_map : ∀ (ts : List Bt), decsW (ts.map hexW) = some ts
  | [] => rfl
  | t :: ts => by
    show decsW (hexW t :: ts.map hexW) = _
    unfold decsW
    rw [unW_hex, decsW_map ts]
    rfl
def flatP (hs : List (Bt × Bt)) : List Bt := hs.flatMap fun h => [h.1, h.2]
theorem hdW_flat (hs : List (Bt × Bt)) : hdW hs = (flatP hs).map hexW := by
  induction hs with
  | nil => rfl
  | cons h r ih => unfold hdW flatP at ih ⊢; rw [List.flatMap_cons, List.flatMap_cons, List.map_append, ← ih]; rfl
theorem prsW_some : ∀ (n : Nat) {ts : List Bt} {hs : List (Bt × Bt)}, ts.length ≤ n → prsW ts = some hs → ts = flatP hs := by
  intro n
  induction n with
  | zero =>
    intro ts hs hl h
    have : ts = [] := List.eq_nil_of_length_eq_zero (by omega)
    subst this
    injection h with h
    subst h
    rfl
  | succ n ih =>
    intro ts hs hl h
    match ts, h with
    | [], h => injection h with h; subst h; rfl
    | [a], h => cases h
    | a :: b :: r, h =>
      unfold prsW at h
      cases hr : prsW r with
      | none => rw [hr] at h; cases h
      | some p =>
        rw [hr, Option.map_some] at h
        injection h with h
        subst h
        rw [ih (by simp at hl; omega) hr]
        rfl
theorem prsW_flat : ∀ (hs : List (Bt × Bt)), prsW (flatP hs) = some hs
  | [] => rfl
  | h :: r => by
    show prsW (h.1 :: h.2 :: flatP r) = _
    unfold prsW
    rw [prsW_flat r]
    rfl
theorem fms_word : ∀ f ∈ fms, ∀ g ∈ fms, f.word = g.word → f = g := by decide
theorem fms_kind : ∀ f ∈ fms, ∀ g ∈ fms, f.kind = g.kind → f = g := by decide
theorem fms_no : ∀ f ∈ fms, ∀ c ∈ f.word, c ≠ 32 ∧ c ≠ 10 := by decide
theorem fms_n : ∀ f ∈ fms, f.n ≤ 3 := by decide
theorem fms_hs : ∀ f ∈ fms, f.hs = true → f.text = true := by decide
theorem find_word {f : Fm} (h : f ∈ fms) : fms.find? (fun g => g.word == f.word) = some f := by
  cases hf : fms.find? (fun g => g.word == f.word) with
  | none => exact absurd (List.find?_eq_none.1 hf f h) (by simp)
  | some g =>
    have h1 := List.find?_some hf
    have h2 := List.mem_of_find?_eq_some hf
    rw [fms_word g h2 f h (by simpa using h1)]
theorem line_some {x : Sp} {l : Bt} (h : lineS x = some l) : ∃ f ∈ fms, f.kind = x.kind ∧ covB f x = true ∧ l = Lib.join (wordsS f x) [32] := by
  unfold lineS at h
  cases hf : fms.find? (okB x) with
  | none => rw [hf] at h; cases h
  | some f =>
    rw [hf, Option.map_some] at h
    injection h with h
    have h1 := List.find?_some hf
    unfold okB at h1
    rw [Bool.and_eq_true] at h1
    exact ⟨f, List.mem_of_find?_eq_some hf, by simpa using h1.1, h1.2, h.symm⟩
theorem line_of {x : Sp} {f : Fm} (hf : f ∈ fms) (hk : f.kind = x.kind) (hc : covB f x = true) : lineS x = some (Lib.join (wordsS f x) [32]) := by
  unfold lineS
  cases hg : fms.find? (okB x) with
  | none => exact absurd (List.find?_eq_none.1 hg f hf) (by unfold okB; simp [hk, hc])
  | some g =>
    have h1 := List.find?_some hg
    unfold okB at h1
    rw [Bool.and_eq_true] at h1
    have : g = f := fms_kind g (List.mem_of_find?_eq_some hg) f hf (by rw [hk]; simpa using h1.1)
    rw [this, Option.map_some]
theorem words_no {x : Sp} {f : Fm} (hf : f ∈ fms) : ∀ w ∈ wordsS f x, ∀ c ∈ w, c ≠ 32 ∧ c ≠ 10 := by
  intro w hw
  unfold wordsS at hw
  rcases List.mem_cons.1 hw with rfl | hw
  · exact fms_no f hf
  · rcases List.mem_append.1 hw with hw | hw
    · obtain ⟨v, _, rfl⟩ := List.mem_map.1 hw
      exact itoa_no v
    · rcases List.mem_append.1 hw with hw | hw
      · split at hw
        · rw [List.mem_singleton] at hw
          subst hw
          exact hexW_no _
        · cases hw
      · rw [hdW_flat] at hw
        obtain ⟨v, _, rfl⟩ := List.mem_map.1 hw
        exact hexW_no v
theorem join_no : ∀ (ws : List Bt) (sep : Bt), (∀ w ∈ ws, ∀ c ∈ w, c ≠ 10) → (∀ c ∈ sep, c ≠ 10) → ∀ c ∈ Lib.join ws sep, c ≠ 10
  | [], sep, _, _ => by rw [Lib.join_nil]; simp
  | w :: ws, sep, h, hs => by
    rw [Lib.join_cons]
    intro c hc
    rcases List.mem_append.1 hc with hc | hc
    · exact h w (List.mem_cons_self ..) c hc
    · unfold Lib.joinTail at hc
      rw [List.mem_flatten] at hc
      obtain ⟨l, hl, hc⟩ := hc
      obtain ⟨v, hv, rfl⟩ := List.mem_map.1 hl
      rcases List.mem_append.1 hc with hc | hc
      · exact hs c hc
      · exact h v (List.mem_cons_of_mem _ hv) c hc
theorem line_no {x : Sp} {l : Bt} (h : lineS x = some l) : ∀ c ∈ l, c ≠ 10 := by
  obtain ⟨f, hf, _, _, rfl⟩ := line_some h
  exact join_no _ _ (fun w hw c hc => (words_no hf w hw c hc).2) (by decide)
theorem line_ne {x : Sp} {l : Bt} (h : lineS x = some l) : l ≠ [] := by
  obtain ⟨f, hf, _, _, rfl⟩ := line_some h
  have : ∀ f ∈ fms, f.word ≠ [] := by decide
  unfold wordsS
  rw [Lib.join_cons]
  intro h2
  exact this f hf (List.append_eq_nil_iff.1 h2).1
theorem step_of_line {x : Sp} {l : Bt} (h : lineS x = some l) (hr : RngS x) : stepS l = some x := by
  obtain ⟨f, hf, hk, hc, rfl⟩ := line_some h
  unfold stepS
  have hw : spl (Lib.join (wordsS f x) [32]) = wordsS f x := by
    unfold wordsS
    exact spl_join _ _ (fun v hv hm => (words_no (x := x) hf v hv 32 hm).1 rfl)
  rw [hw]
  unfold wordsS
  simp only
  unfold stepW
  rw [find_word hf]
  simp only
  unfold stepF
  have hn := fms_n f hf
  have hlen : ((numsS x).take f.n).length = f.n := by rw [List.length_take]; show min f.n 3 = f.n; omega
  have hrg : ∀ v ∈ (numsS x).take f.n, Rng v := fun v hv => by
    have := List.mem_of_mem_take hv
    unfold numsS at this
    obtain ⟨r1, r2, r3⟩ := hr
    rcases List.mem_cons.1 this with rfl | this
    · exact r1
    · rcases List.mem_cons.1 this with rfl | this
      · exact r2
      · rw [List.mem_singleton] at this
        subst this
        exact r3
  have h1 := numsW_map ((numsS x).take f.n) ((if f.text then [hexW x.text] else []) ++ hdW x.hs) hrg
  rw [hlen] at h1
  rw [h1]
  simp only
  have h2 : (if f.text = true then [hexW x.text] else []) ++ hdW x.hs = ((if f.text then [x.text] else []) ++ flatP x.hs).map hexW := by
    rw [List.map_append, hdW_flat]
    split <;> rfl
  rw [h2, decsW_map]
  simp only
  unfold covB at hc
  rw [Bool.and_eq_true, Bool.and_eq_true] at hc
  obtain ⟨c1, c2, c3⟩ := hc
  have hx : (⟨f.kind, ((numsS x).take f.n)[0]?.getD 0, ((numsS x).take f.n)[1]?.getD 0, ((numsS x).take f.n)[2]?.getD 0, x.text, x.hs⟩ : Sp) = x := by
    obtain ⟨xk, xa, xb, xc, xt, xh⟩ := x
    unfold numsS at c1 ⊢
    dsimp only at *
    subst hk
    have : f.n = 0 ∨ f.n = 1 ∨ f.n = 2 ∨ f.n = 3 := by omega
    rcases this with e | e | e | e <;> rw [e] at c1 ⊢ <;> simp at c1 ⊢
    · exact ⟨c1.1.symm, c1.2.1.symm, c1.2.2.symm⟩
    · exact ⟨c1.1.symm, c1.2.symm⟩
    · exact c1.symm
  have hfin : finW f ((numsS x).take f.n) x.text (flatP x.hs) = some x := by
    unfold finW
    rw [if_neg]
    · rw [prsW_flat, Option.map_some, hx]
    · intro h
      rw [Bool.and_eq_true] at h
      have h0 : f.hs = false := by simpa using h.1
      rw [h0, Bool.false_or, List.isEmpty_iff] at c3
      rw [c3] at h
      exact absurd h.2 (by decide)
  unfold textW
  cases ht : f.text with
  | true =>
    rw [if_pos rfl, if_pos rfl]
    exact hfin
  | false =>
    rw [if_neg (by decide), if_neg (by decide)]
    rw [ht, Bool.false_or, List.isEmpty_iff] at c2
    rw [c2] at hfin
    exact hfin
theorem fin_some {f : Fm} {ns : List Int} {t : Bt} {ts : List Bt} {x : Sp} (h : finW f ns t ts = some x) : x.kind = f.kind ∧ x.a = ns[0]?.getD 0 ∧ x.b = ns[1]?.getD 0 ∧ x.c = ns[2]?.getD 0 ∧ x.text = t ∧ ts = flatP x.hs ∧ (f.hs || x.hs.isEmpty) = true := by
  unfold finW at h
  split at h
  · cases h
  · rename_i hn
    cases hp : prsW ts with
    | none => rw [hp] at h; cases h
    | some hs =>
      rw [hp, Option.map_some] at h
      injection h with h
      have e := prsW_some _ (Nat.le_refl _) hp
      subst h
      refine ⟨rfl, rfl, rfl, rfl, rfl, e, ?_⟩
      cases hh : f.hs with
      | true => rfl
      | false =>
        rw [hh] at hn
        cases hs with
        | nil => rfl
        | cons q r => rw [e] at hn; exact absurd rfl hn
theorem line_of_step {x : Sp} {l : Bt} (h : stepS l = some x) : lineS x = some l ∧ RngS x := by
  unfold stepS at h
  cases hs : spl l with
  | nil => rw [hs] at h; cases h
  | cons w ws =>
    rw [hs] at h
    simp only at h
    unfold stepW at h
    cases hf : fms.find? (fun f => f.word == w) with
    | none => rw [hf] at h; cases h
    | some f =>
      rw [hf] at h
      simp only at h
      have hfm := List.mem_of_find?_eq_some hf
      have hw : f.word = w := by simpa using List.find?_some hf
      unfold stepF at h
      cases hn : numsW f.n ws with
      | none => rw [hn] at h; cases h
      | some p =>
        obtain ⟨ns, r⟩ := p
        rw [hn] at h
        simp only at h
        obtain ⟨n1, n2, n3⟩ := numsW_some hn
        cases hd : decsW r with
        | none => rw [hd] at h; cases h
        | some ts =>
          rw [hd] at h
          simp only at h
          have d1 := decsW_some hd
          have hn3 := fms_n f hfm
          have key : ∀ (t : Bt) (ts' : List Bt), finW f ns t ts' = some x → ts = (if f.text then t :: ts' else ts') → (f.text = false → t = []) → lineS x = some l ∧ RngS x := by
            intro t ts' hx he ht
            obtain ⟨x1, x2, x3, x4, x5, x6, x7⟩ := fin_some hx
            have hnum : (numsS x).take f.n = ns ∧ ((numsS x).drop f.n).all (fun n => n == 0) = true ∧ RngS x := by
              unfold numsS RngS
              rw [x2, x3, x4]
              have : f.n = 0 ∨ f.n = 1 ∨ f.n = 2 ∨ f.n = 3 := by omega
              have r0 : Rng 0 := by unfold Rng; omega
              rcases this with e | e | e | e <;> rw [e] at n1 ⊢
              · have : ns = [] := List.eq_nil_of_length_eq_zero n1
                subst this
                exact ⟨rfl, rfl, r0, r0, r0⟩
              · match ns, n1 with
                | [u], _ => exact ⟨rfl, rfl, n3 u (by simp), r0, r0⟩
              · match ns, n1 with
                | [u, v], _ => exact ⟨rfl, rfl, n3 u (by simp), n3 v (by simp), r0⟩
              · match ns, n1 with
                | [u, v, z], _ => exact ⟨rfl, rfl, n3 u (by simp), n3 v (by simp), n3 z (by simp)⟩
            refine ⟨?_, hnum.2.2⟩
            rw [line_of hfm x1.symm]
            · congr 1
              rw [← join_spl l, hs]
              congr 1
              unfold wordsS
              rw [hw, hnum.1, n2, d1, he, hdW_flat, ← x6, x5]
              cases f.text <;> simp
            · unfold covB
              rw [hnum.2.1, x7, Bool.true_and, Bool.and_true, x5]
              cases htx : f.text with
              | true => rfl
              | false => rw [ht htx]; rfl
          unfold textW at h
          cases htx : f.text with
          | true =>
            rw [htx, if_pos rfl] at h
            cases ts with
            | nil => cases h
            | cons t r' => exact key t r' h (by rw [htx]; rfl) (fun h => by rw [htx] at h; cases h)
          | false =>
            rw [htx, if_neg (by decide)] at h
            exact key [] ts h (by rw [htx]; rfl) (fun _ => rfl)
theorem line_inj {x y : Sp} {l : Bt} (hx : lineS x = some l) (hy : lineS y = some l) (rx : RngS x) (ry : RngS y) : x = y := by
  have h1 := step_of_line hx rx
  rw [step_of_line hy ry] at h1
  exact (Option.some.inj h1).symm
end Go.Proofs.YtbfdklmljcdonaaDoor
