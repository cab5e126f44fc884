/- The plain list beside the heap: finding a number, striking one out; binary digits; acts that came in. -/
import Derived.Test.YtdkghinjpnelhaaHeapUse
import Derived.Test.YtdkghinjpnelhaaDeep
namespace Go.Proofs.Ytdkghinjpnelhaa
open Go.RowKit Go.Maps Go.WideMaps

theorem erase_at (ls : Ents) (i m : Nat) : (ls.take i ++ ls.drop (i + 1))[m]? = if m < i then ls[m]? else ls[m + 1]? := by
  by_cases hi : i ≤ ls.length
  · rw [List.getElem?_append, List.length_take, Nat.min_eq_left hi]
    by_cases h : m < i
    · rw [if_pos h, if_pos h, List.getElem?_take, if_pos h]
    · rw [if_neg h, if_neg h, List.getElem?_drop]
      congr 1
      omega
  · rw [List.take_of_length_le (by omega), List.drop_eq_nil_of_le (by omega), List.append_nil]
    split
    · rfl
    · rw [List.getElem?_eq_none (by omega), List.getElem?_eq_none (by omega)]
/-- Where the numbers stand when the one at i is struck out. -/
def gone (g : Int → Option Nat) (id : Int) (i : Nat) : Int → Option Nat := fun x => if x = id then none else (g x).map (fun j => if i < j then j - 1 else j)
theorem Con.erase {ls : Ents} {g : Int → Option Nat} (h : Con ls g) {id : Int} {i : Nat} (hf : g id = some i) : Con (ls.take i ++ ls.drop (i + 1)) (gone g id i) := by
  obtain ⟨k0, h0⟩ := (h id i).1 hf
  intro x m
  unfold gone
  rw [erase_at]
  by_cases e : x = id
  · rw [if_pos e]
    constructor
    · intro e
      cases e
    · rintro ⟨k, hk⟩
      split at hk
      · have := h.one hk h0 e
        omega
      · have := h.one hk h0 e
        omega
  · rw [if_neg e]
    constructor
    · intro he
      obtain ⟨j, hj, he⟩ := Option.map_eq_some_iff.1 he
      obtain ⟨k, hk⟩ := (h x j).1 hj
      refine ⟨k, ?_⟩
      have hji : j ≠ i := fun e2 => by
        subst e2
        rw [h0] at hk
        injection hk with hk
        exact e (congrArg Prod.fst hk).symm
      subst he
      split
      · rw [if_neg (by omega), show j - 1 + 1 = j by omega]
        exact hk
      · rw [if_pos (by omega)]
        exact hk
    · rintro ⟨k, hk⟩
      split at hk
      · rw [(h x m).2 ⟨k, hk⟩, Option.map_some, if_neg (by omega)]
      · rw [(h x (m + 1)).2 ⟨k, hk⟩, Option.map_some, if_pos (by omega)]
        rfl
theorem erase_mem {ls : Ents} {g : Int → Option Nat} (h : Con ls g) {id : Int} {i : Nat} (hf : g id = some i) (z : Int × Int) : z ∈ ls.take i ++ ls.drop (i + 1) ↔ z ∈ ls ∧ z.1 ≠ id := by
  obtain ⟨k0, h0⟩ := (h id i).1 hf
  constructor
  · intro hz
    obtain ⟨m, hm⟩ := List.getElem?_of_mem hz
    rw [erase_at] at hm
    split at hm
    · exact ⟨List.mem_of_getElem? hm, fun e => by have := h.one hm h0 e; omega⟩
    · exact ⟨List.mem_of_getElem? hm, fun e => by have := h.one hm h0 e; omega⟩
  · rintro ⟨hz, hne⟩
    obtain ⟨m, hm⟩ := List.getElem?_of_mem hz
    have hmi : m ≠ i := fun e => by
      subst e
      rw [h0] at hm
      injection hm with hm
      exact hne (by rw [← hm])
    by_cases hlt : m < i
    · exact List.mem_of_getElem? (i := m) (by rw [erase_at, if_pos hlt]; exact hm)
    · exact List.mem_of_getElem? (i := m - 1) (by rw [erase_at, if_neg (by omega), show m - 1 + 1 = m by omega]; exact hm)
theorem erase_len {ls : Ents} {i : Nat} (hi : i < ls.length) : (ls.take i ++ ls.drop (i + 1)).length + 1 = ls.length := by
  rw [List.length_append, List.length_take, List.length_drop]
  omega

theorem row_cells {w : World} {B : Nat} {e : TypeId} {a : Option Addr} {n cap : Nat} {ls : Ents} (h : w.ownsRow B e 2 (.slice a n cap) n (flat ls)) {i : Nat} {x : Int × Int} (hx : ls[i]? = some x) :
    ∃ g, a = some ⟨g, 0, none⟩ ∧ w.cell? ⟨g, i * 2, none⟩ = some (.int .i64 x.1) ∧ w.cell? ⟨g, i * 2 + 1, none⟩ = some (.int .i64 x.2) ∧ w.frozen? ⟨g, i * 2 + 1, none⟩ = false ∧ n ≤ cap := by
  have hl := h.1
  rw [flat_len] at hl
  have hi := (List.getElem?_eq_some_iff.1 hx).1
  rcases h.2 with ⟨_, h0⟩ | ⟨g, cap', cur, hv, _, _, hnc, _⟩
  · omega
  · injection hv with e1 e2 e3
    subst e1
    subst e3
    exact ⟨g, rfl, by rw [h.cellAt _ (by omega), flat_fst hx], by rw [h.cellAt _ (by omega), flat_snd hx], h.frozenAt _, hnc⟩

/-- What 'at' answers. -/
def atV (o : Option Nat) : Int := match o with
  | some i => i
  | none => -1
set_option maxHeartbeats 1000000 in
theorem at_is {w : World} {B : Nat} {a : Option Addr} {cap : Nat} {ls : Ents} {g : Int → Option Nat} (h : w.ownsRow B 48 2 (.slice a ls.length cap) ls.length (flat ls)) (hc : Con ls g) (hl : ls.length < 1000000) (id : Int) :
    Calls Try.prog 18 #[.slice a ls.length cap, .int .i64 id] w fun e w' => e = .returned (.int .i64 (atV (g id))) ∧ w' = w := by
  have HROW := Lib.hid h
  have HC := Lib.hid hc
  clear h hc
  go_enter Try.func18, Try.ntmps18
  go_wp2_with fail
  go_loop [5] (fun v => ∃ k : Nat, k ≤ ls.length ∧ v = .int .i64 k ∧ Hid (∀ j x, j < k → ls[j]? = some x → x.1 ≠ id)) (fun v => ls.length - (intOf v).toNat)
  case atStart => exact ⟨0, by omega, rfl, Lib.hid (fun j x h => absurd h (Nat.not_lt_zero j))⟩
  case round =>
    obtain ⟨k, hk, rfl, HN⟩ := hrel
    by_cases hlt : k < ls.length
    · have hd1 : decide ((k : Int) < ls.length) = true := decide_eq_true (by omega)
      obtain ⟨x, hx⟩ : ∃ x, ls[k]? = some x := ⟨_, List.getElem?_eq_getElem hlt⟩
      obtain ⟨p, rfl, c1, _, _, _⟩ := row_cells HROW.out hx
      have HX := Lib.hid hx
      clear hx
      by_cases hxi : x.1 = id
      · have hg : g id = some k := (HC.out id k).2 ⟨x.2, by rw [HX.out, ← hxi]⟩
        have hv : (k : Int) = atV (g id) := by rw [hg]; rfl
        have HV := Lib.hid hv
        have hd2 : (x.1 == id) = true := by simpa using hxi
        clear hg hv
        go_wp2_with fail
        exact bodyPost_ret (v := .int .i64 k) (by simp [results, Try.results18, go_sem]) rfl ⟨by rw [HV.out], rfl⟩
      · have hd2 : (x.1 == id) = false := by simpa using hxi
        go_wp2_with fail
        go_round
        case rel =>
          refine ⟨k + 1, by omega, by go_num, Lib.hid (fun j y hj hy => ?_)⟩
          by_cases e : j = k
          · subst e
            rw [HX.out] at hy
            injection hy with hy
            rw [← hy]
            exact hxi
          · exact HN.out j y (by omega) hy
        case measure => simp [intOf]; omega
    · have hd1 : decide ((k : Int) < ls.length) = false := decide_eq_false (by omega)
      have hg : g id = none := by
        cases hg : g id with
        | none => rfl
        | some i =>
          obtain ⟨z, hz⟩ := (HC.out id i).1 hg
          exact absurd rfl (HN.out i _ (by have := (List.getElem?_eq_some_iff.1 hz).1; omega) hz)
      have HV := Lib.hid (show (-1 : Int) = atV (g id) by rw [hg]; rfl)
      clear hg
      go_wp2_with fail
      exact bodyPost_ret (v := .int .i64 (-1)) (by simp [results, Try.results18, go_sem]) rfl ⟨by rw [HV.out], rfl⟩
theorem bits_is (n : Nat) (hn : n < 1000000) (w : World) : Calls Try.prog 22 #[.int .i64 n] w fun e w' => e = .returned (.int .i64 (digs n)) ∧ w' = w := by
  go_enter Try.func22, Try.ntmps22
  go_wp2_with fail
  go_loop [0, 3] (fun v c => ∃ m k : Nat, m ≤ n ∧ k ≤ n ∧ v = .int .i64 m ∧ c = .int .i64 k ∧ Hid (k + digs m = digs n)) (fun v _ => (intOf v).toNat)
  case atStart => exact ⟨n, 0, by omega, by omega, rfl, rfl, Lib.hid (by omega)⟩
  case round =>
    obtain ⟨m, k, hm, hk, rfl, rfl, HK⟩ := hrel
    by_cases h0 : 0 < m
    · have h1 := digs_pos h0
      have h2 := digs_le n
      go_wp2_with fail
      go_round
      case rel => exact ⟨m / 2, k + 1, by omega, by have := HK.out; omega, by congr 1 <;> omega, by go_num, Lib.hid (by have := HK.out; omega)⟩
      case measure => simp [intOf]; omega
    · obtain rfl : m = 0 := by omega
      have HV : Hid (k = digs n) := Lib.hid (by have := HK.out; rw [digs_zero] at this; omega)
      go_wp2_with fail
      exact bodyPost_ret (v := .int .i64 k) (by simp [results, Try.results22, go_sem]) rfl ⟨by rw [HV.out], rfl⟩
section
open Go.Joins Go.Deep Go.WideShapes
variable {H : Type} {enc : TypeId × Value → H} {w : World} {base b0 : Nat} {held : Bool} {rr : Reach}
/-- The acts that a slice holds. -/
def IsActs (w : World) (x : Option Addr × Nat × Nat) : Prop :=
  ∃ b off, (0 < x.2.1 → x.1 = some ⟨b, off, none⟩) ∧ x.2.1 ≤ maxLen ∧ ∃ A : Nat → Int × Int × Int, ∀ i, i < x.2.1 → w.cell? ⟨b, off + i * 3, none⟩ = some (.int .i64 (A i).1) ∧ w.cell? ⟨b, off + i * 3 + 1, none⟩ = some (.int .i64 (A i).2.1) ∧ w.cell? ⟨b, off + i * 3 + 2, none⟩ = some (.int .i64 (A i).2.2) ∧ In64 (A i).1 ∧ In64 (A i).2.1 ∧ In64 (A i).2.2
theorem in64_of {z : Int} (h : (Lit.int .i64 z).wf = true) : In64 z := by
  simp [Lit.wf, IntKind.min, IntKind.max, IntKind.signed, IntKind.bits] at h
  unfold In64
  omega
theorem open_acts {v : Value} {d : DataW H} {p : List MemPlace} (hv : Value.okWide Try.prog w rr b0 39 v) (hd : DataW.Trod enc Try.prog w base (fun _ => true) held 39 v d p) :
    ∃ x : Option Addr × Nat × Nat, v = .slice x.1 x.2.1 x.2.2 ∧ IsActs w x := by
  obtain ⟨a, len, cap, rfl⟩ := okWide_slice Try.underlying39 hv
  refine ⟨(a, len, cap), rfl, ?_⟩
  have h : Fits enc Try.prog w base (fun _ => true) held 39 [.slice a len cap] := Fits.of hd
  obtain ⟨C, ⟨rfl, rfl, rfl⟩ | ⟨x, rfl, hl, hm, hx⟩⟩ := h.elems Try.underlying39 (n := 3) (by kernel_rfl)
  · exact ⟨0, 0, fun h => absurd h (by decide), by decide, fun _ => (0, 0, 0), fun i hi => absurd hi (Nat.not_lt_zero i)⟩
  · by_cases h0 : 0 < cap
    · obtain ⟨b, off, rfl, hc⟩ := plain_at (by decide) (fun i hi => ⟨(hx i hi).1, (hx i hi).2.2⟩) h0
      have key : ∀ i, i < cap → ∃ q : Int × Int × Int, (C i)[0]? = some (.int .i64 q.1) ∧ (C i)[1]? = some (.int .i64 q.2.1) ∧ (C i)[2]? = some (.int .i64 q.2.2) ∧ In64 q.1 ∧ In64 q.2.1 ∧ In64 q.2.2 := fun i hi => by
        obtain ⟨x0, h0, w0⟩ := (hx i hi).2.1.int Try.underlying44 0 0 rfl rfl rfl Try.underlying3 (by kernel_rfl)
        obtain ⟨x1, h1, w1⟩ := (hx i hi).2.1.int Try.underlying44 1 1 rfl rfl rfl Try.underlying3 (by kernel_rfl)
        obtain ⟨x2, h2, w2⟩ := (hx i hi).2.1.int Try.underlying44 2 2 rfl rfl rfl Try.underlying3 (by kernel_rfl)
        exact ⟨(x0, x1, x2), h0, h1, h2, in64_of w0, in64_of w1, in64_of w2⟩
      refine ⟨b, off, fun _ => rfl, (by omega : len ≤ maxLen), fun i => if hi : i < cap then Classical.choose (key i hi) else (0, 0, 0), fun i hi => ?_⟩
      have hi : i < cap := Nat.lt_of_lt_of_le hi hl
      simp only [dif_pos hi]
      obtain ⟨k1, k2, k3, k4, k5, k6⟩ := Classical.choose_spec (key i hi)
      exact ⟨hc i hi 0 _ k1, hc i hi 1 _ k2, hc i hi 2 _ k3, k4, k5, k6⟩
    · obtain rfl : cap = 0 := by omega
      obtain rfl : len = 0 := by omega
      exact ⟨0, 0, fun h => absurd h (Nat.lt_irrefl 0), Nat.zero_le _, fun _ => (0, 0, 0), fun i hi => absurd hi (Nat.not_lt_zero i)⟩
end
end Go.Proofs.Ytdkghinjpnelhaa
