/- Package heap: its functions by what a heap holds; the fixed fact. -/
import Derived.Test.YtdkghinjpnelhaaHeapDrop
namespace Go.Proofs.Ytdkghinjpnelhaa
open Go.RowKit Go.Maps Go.WideMaps

/-- In block p lies a heap that holds these entries. -/
structure Cont (w : World) (B p bm : Nat) (a : Option Addr) (cap : Nat) (es : Ents) (f : Int → Option Nat) (N : Nat) (wk : Int) : Prop where
  hp : Hp w B p bm a cap es f N wk
  con : Con es f
  heaped : Heaped es

section
variable {w : World} {B p bm : Nat} {a : Option Addr} {cap : Nat} {es : Ents} {f : Int → Option Nat} {N : Nat} {wk : Int}
theorem Con.none_of (h : Con es f) {id : Int} (hn : ∀ k, (id, k) ∉ es) : f id = none := by
  cases hf : f id with
  | none => rfl
  | some i =>
    obtain ⟨k, hk⟩ := (h id i).1 hf
    exact absurd (List.mem_of_getElem? hk) (hn k)
theorem Con.some_of (h : Con es f) {id k : Int} (hm : (id, k) ∈ es) : ∃ i, f id = some i ∧ es[i]? = some (id, k) := by
  obtain ⟨i, hi⟩ := List.getElem?_of_mem hm
  exact ⟨i, (h id i).2 ⟨k, hi⟩, hi⟩
theorem Con.uniq (h : Con es f) {id k k' : Int} (hm : (id, k) ∈ es) (hm' : (id, k') ∈ es) : k = k' := by
  obtain ⟨i, hi⟩ := List.getElem?_of_mem hm
  obtain ⟨j, hj⟩ := List.getElem?_of_mem hm'
  have := h.one hi hj rfl
  subst this
  rw [hi] at hj
  injection hj with hj
  exact congrArg Prod.snd hj
theorem Cont.later {w' : World} (h : Cont w B p bm a cap es f N wk) (hb : Below w.heap.size w w') : Cont w' B p bm a cap es f N wk := ⟨h.hp.later hb, h.con, h.heaped⟩
theorem Cont.only {R : Nat → Prop} {w' : World} (h : Cont w B p bm a cap es f N wk) (ho : Only R w w') (hne : ∀ k, R k → Mine p bm a k → False) : Cont w' B p bm a cap es f N wk := ⟨h.hp.only ho hne, h.con, h.heaped⟩

theorem new_cont (w : World) : Calls Try.prog 17 #[] w fun e w' =>
    e = .returned (.pointer (some ⟨w.heap.size + 1, 0, none⟩)) ∧ Cont w' w.heap.size (w.heap.size + 1) w.heap.size none 0 [] (fun _ => none) 0 0 ∧ Below w.heap.size w w' :=
  (new_heap w).mono (fun _ _ h => ⟨h.1, ⟨h.2.1, fun id i => ⟨fun e => (by cases e), fun ⟨k, hk⟩ => by simp at hk⟩, fun i x y _ hx => by simp at hx⟩, h.2.2⟩)
/-- What a Set leaves. -/
def SetC (w w' : World) (B p bm : Nat) (a a' : Option Addr) (cap' : Nat) (es : Ents) (N : Nat) (wk : Int) (id k : Int) (es' : Ents) (f' : Int → Option Nat) (N' : Nat) (wk' : Int) : Prop :=
  Cont w' B p bm a' cap' es' f' N' wk' ∧ (∀ z, z ∈ es' ↔ (z ∈ es ∧ z.1 ≠ id) ∨ z = (id, k)) ∧ (es'.length = es.length ∧ (∃ k', (id, k') ∈ es) ∨ es'.length = es.length + 1 ∧ (∀ k', (id, k') ∉ es) ∧ (0 < es.length → wk + 1 ≤ wk')) ∧ N' ≤ N + 1 + 4 * es'.length ∧ wk ≤ wk' ∧ wk' ≤ wk + 2 * digs es'.length ∧ Turn p bm a w a' w'
theorem set_any (h : Cont w B p bm a cap es f N wk) (hB : B ≤ w.heap.size) (id k : Int) (hid : In64 id) (hk : In64 k) (hl : es.length < 900) (hN : N < 800000) (hw0 : 0 ≤ wk) (hw : wk < 900000) :
    Calls Try.prog 20 #[.pointer (some ⟨p, 0, none⟩), .int .i64 id, .int .i64 k] w fun r w' => ∃ (a' : Option Addr) (cap' : Nat) (es' : Ents) (f' : Int → Option Nat) (N' : Nat) (wk' : Int), r = .returned (.tuple #[]) ∧ SetC w w' B p bm a a' cap' es N wk id k es' f' N' wk' := by
  by_cases hx : ∃ k', (id, k') ∈ es
  · obtain ⟨k', hx⟩ := hx
    obtain ⟨i, hf, _⟩ := h.con.some_of hx
    refine (set_old h.hp h.con h.heaped id k hid hk i hf (by omega) hN hw0 hw).mono ?_
    rintro r w' ⟨es', f', N', wk', rfl, h1, h2, h3, h4, h5, h6, h7, h8, h9⟩
    exact ⟨a, cap, es', f', N', wk', rfl, ⟨h1, h2, h5⟩, h3, Or.inl ⟨h4, k', hx⟩, by rw [h4]; exact h6, h7, by rw [h4]; exact h8, h9⟩
  · have hx : ∀ k', (id, k') ∉ es := fun k' e => hx ⟨k', e⟩
    refine (set_new h.hp h.con h.heaped hB id k hid hk (h.con.none_of hx) hl hN hw0 hw).mono ?_
    rintro r w' ⟨a', cap', es', f', N', wk', rfl, ⟨h1, h2, h3, h4, h5, h6, h7, h8, h9⟩, h10⟩
    exact ⟨a', cap', es', f', N', wk', rfl, ⟨h1, h2, h5⟩, h3, Or.inr ⟨h4, hx, h10⟩, by rw [h4]; exact h6, h7, by rw [h4]; exact h8, h9⟩
theorem drop_no (h : Cont w B p bm a cap es f N wk) (id : Int) (hid : In64 id) (hx : ∀ k', (id, k') ∉ es) : Calls Try.prog 21 #[.pointer (some ⟨p, 0, none⟩), .int .i64 id] w fun e w' => e = .returned (.bool false) ∧ w' = w :=
  drop_none h.hp id hid (h.con.none_of hx)
/-- What a Drop leaves. -/
def DropC (w w' : World) (B p bm : Nat) (a : Option Addr) (cap : Nat) (es : Ents) (N : Nat) (wk : Int) (id : Int) (es' : Ents) (f' : Int → Option Nat) (N' : Nat) (wk' : Int) : Prop :=
  Cont w' B p bm a cap es' f' N' wk' ∧ (∀ z, z ∈ es' ↔ z ∈ es ∧ z.1 ≠ id) ∧ es'.length + 1 = es.length ∧ N' ≤ N + 1 + 4 * es.length ∧ wk ≤ wk' ∧ wk' ≤ wk + 2 * digs es.length ∧ Turn p bm a w a w'
theorem drop_yes (h : Cont w B p bm a cap es f N wk) (id k : Int) (hid : In64 id) (hx : (id, k) ∈ es) (hl : es.length < 1000) (hN : N < 800000) (hw0 : 0 ≤ wk) (hw : wk < 900000) :
    Calls Try.prog 21 #[.pointer (some ⟨p, 0, none⟩), .int .i64 id] w fun r w' => ∃ (es' : Ents) (f' : Int → Option Nat) (N' : Nat) (wk' : Int), r = .returned (.bool true) ∧ DropC w w' B p bm a cap es N wk id es' f' N' wk' := by
  obtain ⟨i, hf, _⟩ := h.con.some_of hx
  refine (drop_some h.hp h.con h.heaped id hid i hf hl hN hw0 hw).mono ?_
  rintro r w' ⟨es', f', N', wk', rfl, h1, h2, h3, h4, h5, h6, h7, h8, h9⟩
  exact ⟨es', f', N', wk', rfl, ⟨h1, h2, h5⟩, h3, h4, h6, h7, h8, h9⟩
theorem min_any (h : Cont w B p bm a cap es f N wk) (h0 : 0 < es.length) (hl : es.length < 1000000) : Calls Try.prog 25 #[.pointer (some ⟨p, 0, none⟩)] w fun r w' => ∃ e, e ∈ es ∧ (∀ x, x ∈ es → ¬ lt x e) ∧ r = .returned (.tuple #[.int .i64 e.1, .int .i64 e.2, .bool true]) ∧ Below w.heap.size w w' := by
  have hz : es[0]? = some es[0] := List.getElem?_eq_getElem h0
  refine (min_some h.hp _ hz hl).mono ?_
  rintro r w' ⟨h1, h2⟩
  refine ⟨es[0], List.mem_of_getElem? hz, fun x hx => ?_, h1, h2⟩
  obtain ⟨m, hm⟩ := List.getElem?_of_mem hx
  exact heaped_min h.heaped hz m x hm
theorem min_is (h : Cont w B p bm a cap es f N wk) (hl : es.length < 1000000) (id k : Int) (hm : (id, k) ∈ es) (hx : ∀ x, x ∈ es → x ≠ (id, k) → lt (id, k) x) : Calls Try.prog 25 #[.pointer (some ⟨p, 0, none⟩)] w fun r w' => r = .returned (.tuple #[.int .i64 id, .int .i64 k, .bool true]) ∧ Below w.heap.size w w' := by
  refine (min_any h (List.length_pos_of_mem hm) hl).mono ?_
  rintro r w' ⟨e, he, hle, h1, h2⟩
  have : e = (id, k) := Decidable.byContradiction (fun hne => hle _ hm (hx e he hne))
  subst this
  exact ⟨h1, h2⟩
theorem len_is (h : Cont w B p bm a cap es f N wk) (n : Int) (hn : (es.length : Int) = n) : Calls Try.prog 23 #[.pointer (some ⟨p, 0, none⟩)] w fun e w' => e = .returned (.int .i64 n) ∧ w' = w := by
  subst hn
  exact len_heap h.hp
theorem work_is (h : Cont w B p bm a cap es f N wk) : Calls Try.prog 19 #[.pointer (some ⟨p, 0, none⟩)] w fun e w' => e = .returned (.int .i64 wk) ∧ w' = w := work_heap h.hp
theorem key_is (h : Cont w B p bm a cap es f N wk) (id k : Int) (hid : In64 id) (hx : (id, k) ∈ es) (hl : es.length < 1000000) : Calls Try.prog 24 #[.pointer (some ⟨p, 0, none⟩), .int .i64 id] w fun e w' => e = .returned (.tuple #[.int .i64 k, .bool true]) ∧ w' = w := by
  obtain ⟨i, hf, hi⟩ := h.con.some_of hx
  exact key_some h.hp id k hid i hf hi hl
theorem min_no (h : Cont w B p bm a cap es f N wk) (h0 : es.length = 0) : Calls Try.prog 25 #[.pointer (some ⟨p, 0, none⟩)] w fun e w' => e = .returned (.tuple #[.int .i64 0, .int .i64 0, .bool false]) ∧ w' = w := by
  obtain rfl : es = [] := List.length_eq_zero_iff.1 h0
  exact min_none h.hp
/-- The blocks of a heap lie above its base. -/
theorem Hp.above (h : Hp w B p bm a cap es f N wk) {k : Nat} (hk : Mine p bm a k) : B ≤ k ∧ k < w.heap.size := by
  obtain ⟨l1, l2, l3⟩ := h.lts
  have h1 := h.hp
  have h2 := h.hm
  rcases hk with rfl | rfl | ⟨x, rfl, rfl⟩
  · exact ⟨h1, l1⟩
  · exact ⟨h2, l2⟩
  · refine ⟨?_, l3 x rfl⟩
    rcases h.row.2 with ⟨e, _⟩ | ⟨g, c, cur, e, hg, _⟩
    · cases e
    · injection e with e
      injection e with e
      rw [e]
      exact hg
theorem Turn.below {w' : World} {a' : Option Addr} (t : Turn p bm a w a' w') (h : Hp w B p bm a cap es f N wk) (hB : B ≤ w.heap.size) : Below B w w' := t.1.below hB (fun _ hk => (h.above hk).1)
end

set_option maxHeartbeats 2000000 in
theorem awake12 (w : World) : Calls Try.prog 26 #[] w fun e w' => e = .returned (.bool true) ∧ Below w.heap.size w w' := by
  have i1 : In64 1 := ⟨by decide, by decide⟩
  have i2 : In64 2 := ⟨by decide, by decide⟩
  have i3 : In64 3 := ⟨by decide, by decide⟩
  have i5 : In64 5 := ⟨by decide, by decide⟩
  have i9 : In64 9 := ⟨by decide, by decide⟩
  have i20 : In64 20 := ⟨by decide, by decide⟩
  go_enter Try.func26, Try.ntmps26
  go_wp2_with fail
  refine (new_cont _).mono ?_
  rintro e w0 ⟨rfl, h0, b0⟩
  go_wp2_with fail
  refine (set_any h0 b0.size 3 9 i3 i9 (by decide) (by decide) (by decide) (by decide)).mono ?_
  rintro e w1 ⟨a1, cap1, es1, f1, N1, wk1, rfl, h1, m1, l1, n1, k1, k1', t1⟩
  have e1 : es1.length = 1 := by
    rcases l1 with ⟨_, k', hk'⟩ | ⟨l, _⟩
    · simp at hk'
    · simpa using l
  have x1 : ∀ z, z ∈ es1 ↔ z = (3, 9) := fun z => by rw [m1 z]; simp
  have d1 := digs_le es1.length
  have b1 := b0.trans (t1.below h0.hp b0.size)
  clear l1 m1 t1 h0 b0
  go_wp2_with fail
  refine (set_any h1 b1.size 1 5 i1 i5 (by omega) (by omega) (by omega) (by omega)).mono ?_
  rintro e w2 ⟨a2, cap2, es2, f2, N2, wk2, rfl, h2, m2, l2, n2, k2, k2', t2⟩
  have e2 : es2.length = 2 ∧ 1 ≤ wk2 := by
    rcases l2 with ⟨_, k', hk'⟩ | ⟨l, _, q⟩
    · rw [x1] at hk'; simp at hk'
    · have := q (by omega)
      omega
  have x2 : ∀ z, z ∈ es2 ↔ z = (3, 9) ∨ z = (1, 5) := fun z => by
    rw [m2 z, x1 z]
    constructor
    · rintro (⟨h, _⟩ | h) <;> simp [h]
    · rintro (rfl | rfl) <;> simp
  have d2 := digs_le es2.length
  have b2 := b1.trans (t2.below h1.hp b1.size)
  clear l2 m2 t2 h1 b1 x1
  go_wp2_with fail
  refine (set_any h2 b2.size 2 5 i2 i5 (by omega) (by omega) (by omega) (by omega)).mono ?_
  rintro e w3 ⟨a3, cap3, es3, f3, N3, wk3, rfl, h3, m3, l3, n3, k3, k3', t3⟩
  have e3 : es3.length = 3 := by
    rcases l3 with ⟨_, k', hk'⟩ | ⟨l, _, q⟩
    · rw [x2] at hk'; simp at hk'
    · omega
  have x3 : ∀ z, z ∈ es3 ↔ z = (3, 9) ∨ z = (1, 5) ∨ z = (2, 5) := fun z => by
    rw [m3 z, x2 z]
    constructor
    · rintro (⟨h | h, _⟩ | h) <;> simp [h]
    · rintro (rfl | rfl | rfl) <;> simp
  have d3 := digs_le es3.length
  have b3 := b2.trans (t3.below h2.hp b2.size)
  clear l3 m3 t3 h2 b2 x2
  go_wp2_with fail
  refine (min_is h3 (by omega) 1 5 ((x3 _).2 (by simp)) (fun x hx hne => ?_)).mono ?_
  · rcases (x3 x).1 hx with rfl | rfl | rfl
    · unfold lt; omega
    · exact absurd rfl hne
    · unfold lt; omega
  rintro e w4 ⟨rfl, b4⟩
  have h4 := h3.later b4
  have b4 := b3.trans (b4.mono b3.size)
  clear h3 b3
  go_wp2_with fail
  refine (set_any h4 b4.size 1 20 i1 i20 (by omega) (by omega) (by omega) (by omega)).mono ?_
  rintro e w5 ⟨a5, cap5, es5, f5, N5, wk5, rfl, h5, m5, l5, n5, k5, k5', t5⟩
  have e5 : es5.length = 3 := by
    rcases l5 with ⟨l, _⟩ | ⟨_, l, _⟩
    · omega
    · exact absurd ((x3 (1, 5)).2 (by simp)) (l 5)
  have x5 : ∀ z, z ∈ es5 ↔ z = (3, 9) ∨ z = (2, 5) ∨ z = (1, 20) := fun z => by
    rw [m5 z, x3 z]
    constructor
    · rintro (⟨h | h | h, hn⟩ | h)
      · simp [h]
      · subst h; simp at hn
      · simp [h]
      · simp [h]
    · rintro (rfl | rfl | rfl) <;> simp
  have d5 := digs_le es5.length
  have b5 := b4.trans (t5.below h4.hp b4.size)
  clear l5 m5 t5 h4 b4 x3
  go_wp2_with fail
  refine (min_is h5 (by omega) 2 5 ((x5 _).2 (by simp)) (fun x hx hne => ?_)).mono ?_
  · rcases (x5 x).1 hx with rfl | rfl | rfl
    · unfold lt; omega
    · exact absurd rfl hne
    · unfold lt; omega
  rintro e w6 ⟨rfl, b6⟩
  have h6 := h5.later b6
  have b6 := b5.trans (b6.mono b5.size)
  clear h5 b5
  go_wp2_with fail
  refine (drop_yes h6 2 5 i2 ((x5 _).2 (by simp)) (by omega) (by omega) (by omega) (by omega)).mono ?_
  rintro e w7 ⟨es7, f7, N7, wk7, rfl, h7, m7, l7, n7, k7, k7', t7⟩
  have x7 : ∀ k, (2, k) ∉ es7 := fun k e => ((m7 _).1 e).2 rfl
  have b7 := b6.trans (t7.below h6.hp b6.size)
  clear m7 t7 h6 b6 x5
  go_wp2_with fail
  refine (drop_no h7 2 i2 x7).mono ?_
  rintro e w8 ⟨rfl, rfl⟩
  go_wp2_with fail
  refine (len_is h7 2 (by omega)).mono ?_
  rintro e w9 ⟨rfl, rfl⟩
  go_wp2_with fail
  refine (work_is h7).mono ?_
  rintro e w9 ⟨rfl, rfl⟩
  have hw7 : decide ((0 : Int) < wk7) = true := decide_eq_true (by omega)
  go_wp2_with fail
  exact bodyPost_ret (v := .bool true) (by simp [results, Try.results26, go_sem]) rfl ⟨rfl, b7⟩
end Go.Proofs.Ytdkghinjpnelhaa
