/- The document's disk: what it is in memory; at, fails, New. -/
import Derived.Test.YtomeipjglnpciaaDkDrop
import Derived.Test.YtomeipjglnpciaaDkCra
import Derived.Test.YtomeipjglnpciaaDkRm
namespace Go.Proofs.Ytomeipjglnpciaa
open Go Go.RowKit Go.Maps
set_option linter.unusedVariables false
set_option linter.unusedSimpArgs false
set_option maxRecDepth 10000

theorem rowSg : RowTy Try.prog 35 45 2 32 := ⟨Try.underlying35, ⟨.agg #[.int .i64 0, .slice none 0 0], by kernel_rfl, rfl⟩, by decide⟩
theorem rowBy : RowTy Try.prog 43 57 2 16 := ⟨Try.underlying43, ⟨.agg #[.int .u8 0, .int .i64 0], by kernel_rfl, rfl⟩, by decide⟩
abbrev Bys := List (Int × Int)
abbrev Rgs := List (Int × Bys)
def byL (b : Int × Int) : List Value := [.int .u8 b.1, .int .i64 b.2]
def byC (bs : Bys) : List Value := bs.flatMap byL
def sgL (V : VF) (p : Int × Bys) : List Value := [.int .i64 p.1, .slice (V p.1).1 p.2.length (V p.1).2]
def sgC (V : VF) (R : Rgs) : List Value := R.flatMap (sgL V)
/-- Rows of two cells an element. -/
theorem two_len {α : Type} (f : α → List Value) (hf : ∀ x, (f x).length = 2) (l : List α) : (l.flatMap f).length = l.length * 2 := by
  induction l with
  | nil => rfl
  | cons x t ih => rw [List.flatMap_cons, List.length_append, hf, ih, List.length_cons]; omega
theorem two_get {α : Type} (f : α → List Value) (hf : ∀ x, (f x).length = 2) {l : List α} {i : Nat} {x : α} (h : l[i]? = some x) : (l.flatMap f)[i * 2]? = (f x)[0]? ∧ (l.flatMap f)[i * 2 + 1]? = (f x)[1]? := by
  induction l generalizing i with
  | nil => simp at h
  | cons q t ih =>
    rw [List.flatMap_cons]
    cases i with
    | zero =>
      obtain rfl : q = x := by simpa using h
      have := hf q
      rw [List.getElem?_append_left (by omega), List.getElem?_append_left (by omega)]
      exact ⟨rfl, rfl⟩
    | succ j =>
      have hq := hf q
      obtain ⟨h1, h2⟩ := ih (i := j) (by simpa using h)
      rw [List.getElem?_append_right (by omega), List.getElem?_append_right (by omega), hq, show (j + 1) * 2 - 2 = j * 2 by omega, show (j + 1) * 2 + 1 - 2 = j * 2 + 1 by omega]
      exact ⟨h1, h2⟩
theorem two_take {α : Type} (f : α → List Value) (hf : ∀ x, (f x).length = 2) (l : List α) (k : Nat) : (l.take k).flatMap f = (l.flatMap f).take (k * 2) := by
  induction l generalizing k with
  | nil => simp
  | cons q t ih =>
    cases k with
    | zero => simp
    | succ j =>
      have e : (f q).take ((j + 1) * 2) = f q := List.take_of_length_le (by rw [hf]; omega)
      rw [List.take_succ_cons, List.flatMap_cons, List.flatMap_cons, ih, List.take_append, hf, e, show (j + 1) * 2 - 2 = j * 2 by omega]
theorem two_drop {α : Type} (f : α → List Value) (hf : ∀ x, (f x).length = 2) (l : List α) (k : Nat) : (l.drop k).flatMap f = (l.flatMap f).drop (k * 2) := by
  induction l generalizing k with
  | nil => simp
  | cons q t ih =>
    cases k with
    | zero => simp
    | succ j =>
      have e : (f q).drop ((j + 1) * 2) = [] := List.drop_eq_nil_of_le (by rw [hf]; omega)
      rw [List.drop_succ_cons, List.flatMap_cons, ih, List.drop_append, hf, e, List.nil_append, show (j + 1) * 2 - 2 = j * 2 by omega]
theorem sgL_len (V : VF) (p : Int × Bys) : (sgL V p).length = 2 := rfl
theorem byL_len (b : Int × Int) : (byL b).length = 2 := rfl
theorem sgC_one (V : VF) (R : Rgs) : ∀ u ∈ sgC V R, u.oneCell' = true := by
  intro u hu
  obtain ⟨p, _, hp⟩ := List.mem_flatMap.1 hu
  rcases List.mem_cons.1 hp with rfl | hp
  · rfl
  · rcases List.mem_cons.1 hp with rfl | hp
    · rfl
    · cases hp
/-- The document's disk. -/
structure Rm (w : World) (B d : Nat) (sa : Option Addr) (sc : Nat) (R : Rgs) (V : VF) (most next first fails : Int) : Prop where
  box : Box w d #[.int .i64 most, .slice sa R.length sc, .int .i64 next, .int .i64 first, .int .i64 fails] 37
  own : Own w B 45 2 sa R.length sc (sgC V R)
  rows : ∀ n bs, (n, bs) ∈ R → Own w B 57 2 (V n).1 bs.length (V n).2 (byC bs)
  ne : ∀ n m bs cs, n ≠ m → (n, bs) ∈ R → (m, cs) ∈ R → ∀ g, (V n).1 = some ⟨g, 0, none⟩ → (V m).1 ≠ some ⟨g, 0, none⟩
  srt : R.Pairwise fun p q => p.1 < q.1
  dB : B ≤ d
  mo : most ≤ 16
  cnt : R.length ≤ 16
  fiB : first ≤ 9223372036854775807
  faB : fails ≤ 9223372036854775807
  fi0 : 0 ≤ first
  fa0 : 0 ≤ fails
def MineR (d : Nat) (sa : Option Addr) (R : Rgs) (V : VF) (k : Nat) : Prop := k = d ∨ sa = some ⟨k, 0, none⟩ ∨ ∃ n bs, (n, bs) ∈ R ∧ (V n).1 = some ⟨k, 0, none⟩
def TurnR (d : Nat) (sa : Option Addr) (R : Rgs) (V : VF) (w : World) (sa' : Option Addr) (R' : Rgs) (V' : VF) (w' : World) : Prop := Only (MineR d sa R V) w w' ∧ ∀ k, MineR d sa' R' V' k → MineR d sa R V k ∨ w.heap.size ≤ k
theorem TurnR.refl {d : Nat} {sa : Option Addr} {R : Rgs} {V : VF} {w w' : World} (h : Below w.heap.size w w') : TurnR d sa R V w sa R V w' := ⟨Only.of_below _ h, fun k hk => Or.inl hk⟩
theorem TurnR.trans {d : Nat} {sa s1 s2 : Option Addr} {R R1 R2 : Rgs} {V V1 V2 : VF} {w w1 w2 : World} (h : TurnR d sa R V w s1 R1 V1 w1) (k : TurnR d s1 R1 V1 w1 s2 R2 V2 w2) : TurnR d sa R V w s2 R2 V2 w2 :=
  ⟨h.1.trans k.1 h.2, fun x hx => by
    rcases k.2 x hx with h2 | h2
    · exact h.2 x h2
    · exact Or.inr (Nat.le_trans h.1.size h2)⟩
section
variable {w : World} {B d sc : Nat} {sa : Option Addr} {R : Rgs} {V : VF} {most next first fails : Int}
theorem Rm.later (h : Rm w B d sa sc R V most next first fails) {w' : World} (hb : Below w.heap.size w w') : Rm w' B d sa sc R V most next first fails :=
  ⟨h.box.later hb, h.own.later hb, fun n bs hn => (h.rows n bs hn).later hb, h.ne, h.srt, h.dB, h.mo, h.cnt, h.fiB, h.faB, h.fi0, h.fa0⟩
theorem Rm.mine (h : Rm w B d sa sc R V most next first fails) {k : Nat} (hk : MineR d sa R V k) : k < w.heap.size ∧ B ≤ k := by
  rcases hk with hk | hk | ⟨n, bs, hn, e⟩
  · rw [hk]; exact ⟨h.box.lt, h.dB⟩
  · exact own_lt h.own hk
  · exact own_lt (h.rows n bs hn) e
theorem Rm.turn (h : Rm w B d sa sc R V most next first fails) {sa' : Option Addr} {R' : Rgs} {V' : VF} {w' : World} (ht : TurnR d sa R V w sa' R' V' w') (hB : B ≤ w.heap.size) : Below B w w' :=
  ht.1.below hB fun k hk => (h.mine hk).2
def atR (R : Rgs) (n : Int) : Int := if R.findIdx (fun p => decide (p.1 = n)) < R.length then (R.findIdx (fun p => decide (p.1 = n)) : Int) else -1
theorem atR_yes {n : Int} {k : Nat} {z : Int × Bys} (hk : R[k]? = some z) (hp : z.1 = n) (hno : ∀ i z, i < k → R[i]? = some z → z.1 ≠ n) : atR R n = (k : Int) := by
  obtain ⟨h1, h2⟩ := List.getElem?_eq_some_iff.1 hk
  have : R.findIdx (fun p => decide (p.1 = n)) = k := (List.findIdx_eq h1).2 ⟨by rw [h2]; exact decide_eq_true hp, fun j hj => decide_eq_false (hno j _ hj (List.getElem?_eq_getElem (by omega)))⟩
  unfold atR
  rw [this, if_pos h1]
theorem atR_no {n : Int} (h : ∀ x ∈ R, x.1 ≠ n) : atR R n = -1 := by
  unfold atR
  rw [List.findIdx_eq_length.2 (fun x hx => decide_eq_false (h x hx)), if_neg (Nat.lt_irrefl _)]
set_option maxHeartbeats 2000000 in
theorem at_ref (h : Rm w B d sa sc R V most next first fails) (n : Int) :
    Calls Try.prog 20 #[.pointer (some ⟨d, 0, none⟩), .int .i64 n] w fun e w' => e = .returned (.int .i64 (atR R n)) ∧ w' = w := by
  have HO := Lib.hid h.own
  have c1 := h.box.cell 1
  have ld := h.box.lt
  obtain ⟨K, hK⟩ : ∃ K, R.length = K := ⟨_, rfl⟩
  have HK := Lib.hid hK
  have hK16 := h.cnt
  rw [hK] at c1 hK16
  obtain ⟨v, hv⟩ : ∃ v, atR R n = v := ⟨_, rfl⟩
  rw [hv]
  have HV := Lib.hid hv
  clear h hK hv
  go_enter Try.func20, Try.ntmps20
  go_wp2
  go_loopw [5] (fun j wr => ∃ k : Nat, k ≤ K ∧ j = .int .i64 (k : Int) ∧ wr = w ∧ Hid (∀ i z, i < k → R[i]? = some z → z.1 ≠ n)) (fun j _ => K - (vI j).toNat)
  case atStart => exact ⟨0, by omega, rfl, rfl, Lib.hid (fun i z hi => by omega)⟩
  case round =>
    obtain ⟨k, hk, rfl, hww, HP⟩ := hrel
    subst hww
    by_cases hlt : k < K
    · have hkd : decide ((k : Int) < (K : Int)) = true := decide_eq_true (by omega)
      obtain ⟨z, hz⟩ : ∃ z, R[k]? = some z := ⟨_, List.getElem?_eq_getElem (by rw [HK.out]; exact hlt)⟩
      obtain ⟨g, rfl, _⟩ := HO.out.some_ (by rw [HK.out]; omega)
      have m0 := HO.out.cell ((two_get (sgL V) (sgL_len V) hz).1.trans rfl)
      have hx0 : (0 : Int) ≤ (k : Int) := by omega
      have hx1 : (k : Int) < (K : Int) := by omega
      have HZ := Lib.hid hz
      clear hz
      by_cases hid : z.1 = n
      · have hb : (z.1 == n) = true := by simpa using hid
        have HE : Hid (v = (k : Int)) := Lib.hid (by rw [← HV.out]; exact atR_yes HZ.out hid HP.out)
        obtain ⟨zn, zb⟩ := z
        dsimp only at m0 hid hb
        subst hid
        go_wp2
        go_ret
        exact ⟨by rw [HE.out]; rfl, rfl⟩
      · have hb : (z.1 == n) = false := by simpa using hid
        have HP2 : Hid (∀ i z, i < k + 1 → R[i]? = some z → z.1 ≠ n) := Lib.hid (fun i y hi hy => by
          by_cases hik : i = k
          · subst hik
            rw [HZ.out] at hy
            injection hy with hy
            rw [← hy]
            exact hid
          · exact HP.out i y (by omega) hy)
        obtain ⟨zn, zb⟩ := z
        dsimp only at m0 hid hb
        clear HP HZ
        go_wp2
        go_roundw
        case rel => exact ⟨k + 1, by omega, by go_num, trivial, HP2⟩
        case measure => exact cra_ms K k hlt
    · have hkd : decide ((k : Int) < (K : Int)) = false := decide_eq_false (by omega)
      have HE : Hid (v = -1) := Lib.hid (by
        rw [← HV.out]
        refine atR_no fun x hx => ?_
        obtain ⟨i, hi⟩ := List.mem_iff_getElem?.1 hx
        have := (List.getElem?_eq_some_iff.1 hi).1
        exact HP.out i x (by have := HK.out; omega) hi)
      clear HP
      go_wp2
      go_ret
      exact ⟨by rw [HE.out]; rfl, rfl⟩
end
end Go.Proofs.Ytomeipjglnpciaa
