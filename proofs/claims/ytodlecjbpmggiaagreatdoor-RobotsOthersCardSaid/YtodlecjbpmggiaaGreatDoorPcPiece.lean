/- Package pct: the bytes of a rune, as the decoder cuts them. -/
import Derived.Test.YtodlecjbpmggiaaGreatDoorPcRw
import Derived.Lib.RuneCountTail
namespace Go.Proofs.YtodlecjbpmggiaaGreatDoor
open Go.RowKit
set_option linter.unusedVariables false
set_option linter.unusedSimpArgs false

theorem piece_N (n b0 b1 b2 b3 : Nat) (hn : 1 ≤ n) : 1 ≤ (Lib.decodeN n b0 b1 b2 b3).2 ∧ (Lib.decodeN n b0 b1 b2 b3).2 ≤ n ∧ (Lib.decodeN n b0 b1 b2 b3).2 ≤ 4 ∧ (b0 < 128 → (Lib.decodeN n b0 b1 b2 b3).2 = 1) ∧ (1 < (Lib.decodeN n b0 b1 b2 b3).2 → 128 ≤ b1) ∧ (2 < (Lib.decodeN n b0 b1 b2 b3).2 → 128 ≤ b2) ∧ (3 < (Lib.decodeN n b0 b1 b2 b3).2 → 128 ≤ b3) := by
  unfold Lib.decodeN
  repeat' split
  all_goals (dsimp only; refine ⟨by omega, by omega, by omega, fun _ => by omega, fun _ => by omega, fun _ => by omega, fun _ => by omega⟩)
/-- A rune's piece: its width lies in the text; one byte below 128, or bytes from 128 on alone. -/
structure Piece (s : ByteArray) (pos wd : Nat) : Prop where
  w1 : 1 ≤ wd
  w4 : wd ≤ 4
  fits : pos + wd ≤ s.size
  low : ∀ h : pos < s.size, (s[pos]'h).toNat < 128 → wd = 1
  high : ∀ h : pos < s.size, 128 ≤ (s[pos]'h).toNat → ∀ j (hj : pos + j < s.size), j < wd → 128 ≤ (s[pos + j]'hj).toNat
theorem get_of (s : ByteArray) (i : Nat) (h : i < s.size) : s.get! i = s[i]'h := by simp [ByteArray.get!, getElem!_pos, h]; rfl
theorem piece (s : ByteArray) (pos : Nat) (h : pos < s.size) : Piece s pos (Utf8.decode s pos).2 := by
  obtain ⟨p1, p2, p3, p4, p5, p6, p7⟩ := piece_N (s.size - pos) (s.get! pos).toNat (s.get! (pos + 1)).toNat (s.get! (pos + 2)).toNat (s.get! (pos + 3)).toNat (by omega)
  rw [← Lib.decode_at] at p1 p2 p3 p4 p5 p6 p7
  refine ⟨p1, p3, by omega, fun h' hl => p4 (by rw [get_of s pos h']; exact hl), fun h' hh j hj hjw => ?_⟩
  match j, hj, hjw with
  | 0, hj, _ => exact hh
  | 1, hj, hw => have := p5 hw; rwa [get_of s _ hj] at this
  | 2, hj, hw => have := p6 hw; rwa [get_of s _ hj] at this
  | 3, hj, hw => have := p7 hw; rwa [get_of s _ hj] at this
  | j + 4, hj, hw => omega
theorem btL_extract (s : ByteArray) (a b : Nat) : btL (s.extract a b) = ((btL s).drop a).take (b - a) := by
  unfold btL
  rw [← List.map_drop, ← List.map_take]
  rw [Lib.extract_data]
theorem btL_cons (s : ByteArray) (i : Nat) (h : i < s.size) : (btL s).drop i = (s[i].toNat : Int) :: (btL s).drop (i + 1) := by
  have hk : i < (btL s).length := by simpa using h
  rw [List.drop_eq_getElem_cons hk]
  congr 1
  simp [btL]
  rfl
theorem get_extract (s : ByteArray) (a b i : Nat) (h : i < (s.extract a b).size) (h2 : a + i < s.size) : (s.extract a b)[i]'h = s[a + i]'h2 := by
  simp [ByteArray.getElem_extract]
/-- What is written for a run of bytes without a percent. -/
theorem rwI_run {T P : Int → List Int} (xs t : List Int) (h : ∀ c ∈ xs, c ≠ 37) : rwI T P (xs ++ t) = (rwI T P t).map (xs.flatMap P ++ ·) := by
  induction xs with
  | nil => simp
  | cons c xs ih =>
    rw [List.cons_append, rwI_plain _ (h c (by simp)), ih (fun x hx => h x (by simp [hx]))]
    simp [Function.comp_def]
theorem map_app {a : List Int} {o : Option (List Int)} (b : List Int) : (o.map (b ++ ·)).map (a ++ ·) = o.map ((a ++ b) ++ ·) := by
  cases o <;> simp
/-- The piece as a text. -/
structure PieceT (s : ByteArray) (pos wd : Nat) (x : ByteArray) : Prop where
  is : btL x = ((btL s).drop pos).take wd
  size : x.size = wd
  split : (btL s).drop pos = btL x ++ (btL s).drop (pos + wd)
theorem pieceT {s : ByteArray} {pos wd : Nat} (h : pos + wd ≤ s.size) : PieceT s pos wd (s.extract pos (pos + wd)) := by
  have e : btL (s.extract pos (pos + wd)) = ((btL s).drop pos).take wd := by rw [btL_extract, show pos + wd - pos = wd from by omega]
  refine ⟨e, ?_, ?_⟩
  · simp [ByteArray.size_extract]; omega
  · rw [e, ← List.drop_drop, List.take_append_drop]
theorem decode_low {x : ByteArray} (h : 0 < x.size) {c : Int} (hc : (x[0].toNat : Int) = c) (h2 : c < 128) : Lib.decodeGo x = (c.toNat, 1) := by
  unfold Lib.decodeGo
  rw [if_neg (by omega), decode_ascii x 0 h (by omega)]
  congr 1
  omega
theorem decode_hi {x : ByteArray} (h : 0 < x.size) (h2 : 128 ≤ x[0].toNat) : ∃ c : Int, ∃ n, Lib.decodeGo x = (c.toNat, n) ∧ 128 ≤ c ∧ c ≤ 2147483647 := by
  have h3 := decode_high x 0 h h2
  have h4 := decode_le x 0
  refine ⟨((Utf8.decode x 0).1 : Int), (Utf8.decode x 0).2, ?_, by omega, by omega⟩
  unfold Lib.decodeGo
  rw [if_neg (by omega)]
  simp
theorem nP_high {c : Int} (h : 128 ≤ c) : nP c = codeI c ∧ freeI c = false := by
  have hf : freeI c = false := by
    cases h' : freeI c with
    | false => rfl
    | true => rw [freeI_iff] at h'; unfold freeP at h'; omega
  have hr : resI c = false := by
    cases h' : resI c with
    | false => rfl
    | true => rw [resI_iff] at h'; unfold resP at h'; omega
  unfold nP
  rw [hf, hr]
  exact ⟨rfl, rfl⟩
theorem btL_one {x : ByteArray} (h : x.size = 1) {c : Int} (hc : (x[0]'(by omega)).toNat = c) : btL x = [c] := by
  have h1 := btL_cons x 0 (by omega)
  rw [List.drop_zero] at h1
  rw [h1, hc, List.drop_eq_nil_of_le (by simp; omega)]
/-- normPlain over a rune's bytes. -/
theorem nplain_at (B b : Nat) (l : List Int) (s : ByteArray) (pos wd : Nat) (x : ByteArray) (hpc : Piece s pos wd) (hx : PieceT s pos wd x) (hxe : x = s.extract pos (pos + wd)) (w : World) (hI : IsB B b l w) (hT : Tabs w) (hl : l.length ≤ 100000) (hB : B ≤ w.heap.size) :
    Calls Tryz.prog 70 #[.pointer (some ⟨b, 0, none⟩), .string x] w fun e w' => e = .returned (.tuple #[]) ∧ IsB B b (l ++ (btL x).flatMap nP) w' ∧ Kp B b w w' := by
  have w1 := hpc.w1
  have w4 := hpc.w4
  have ft := hpc.fits
  have sz := hx.size
  have hp : pos < s.size := by omega
  have h0 : 0 < x.size := by omega
  have hg : x[0]'h0 = s[pos]'hp := by
    subst hxe
    rw [get_extract s pos (pos + wd) 0 h0 (by omega)]
    congr 1
  obtain ⟨c, hc⟩ : ∃ c : Int, ((x[0]'h0).toNat : Int) = c := ⟨_, rfl⟩
  by_cases hlo : c < 128
  · have hw1 : wd = 1 := hpc.low hp (by rw [← hg]; omega)
    have e1 : btL x = [c] := btL_one (by omega) hc
    have hd := decode_low h0 hc hlo
    rw [e1, List.flatMap_cons, List.flatMap_nil, List.append_nil]
    cases hk : freeI c || resI c with
    | true =>
      have e2 : nP c = [c] := by unfold nP; rw [hk]; rfl
      have := nplain_keep B b l x c 1 hd (by omega) hlo hk (by omega) w hI hT hl hB
      rw [e1] at this
      rw [e2]
      exact this
    | false =>
      have e2 : nP c = codeI c := by unfold nP; rw [hk]; rfl
      rw [Bool.or_eq_false_iff] at hk
      have := nplain_code B b l x c 1 hd (by omega) hk.1 (fun w => (crune_low c false hk.2 (by omega) hlo w).mono fun e w' ⟨h1, h2⟩ => ⟨h1, by subst h2; exact Below.refl _ _⟩) (by omega) w hI hT hl hB
      rw [e1, show cds [c] = codeI c from by simp [cds]] at this
      rw [e2]
      exact this
  · obtain ⟨c', n, hd, h1, h2⟩ := decode_hi h0 (by omega)
    have := nplain_code B b l x c' n hd (by omega) (nP_high h1).2 (crune_high c' h1 h2) (by omega) w hI hT hl hB
    have e : (btL x).flatMap nP = cds (btL x) := by
      have : ∀ l : List Int, (∀ c ∈ l, 128 ≤ c) → l.flatMap nP = cds l := by
        intro l
        induction l with
        | nil => intro _; rfl
        | cons a l ih =>
          intro h
          rw [List.flatMap_cons, ih (fun c hc => h c (by simp [hc])), (nP_high (h a (by simp))).1]
          simp [cds]
      refine this _ fun c hc => ?_
      obtain ⟨k, hk, rfl⟩ := (mem_bt x c).1 hc
      have hk' : x[k]'hk = s[pos + k]'(by omega) := by
        subst hxe
        exact get_extract s pos (pos + wd) k hk (by omega)
      rw [hk']
      have := hpc.high hp (by rw [← hg]; omega) k (by omega) (by omega)
      omega
    rw [e]
    exact this
theorem flat_len {f : Int → List Int} (h : ∀ c, (f c).length ≤ 3) (l : List Int) : (l.flatMap f).length ≤ 3 * l.length := by
  induction l with
  | nil => simp
  | cons a l ih =>
    rw [List.flatMap_cons, List.length_append, List.length_cons]
    have := h a
    omega
theorem nT_len (v : Int) : (nT v).length ≤ 3 := by
  unfold nT
  split <;> simp [codeI]
theorem nP_len (v : Int) : (nP v).length ≤ 3 := by
  unfold nP
  split <;> simp [codeI]
theorem flat_byts {f : Int → List Int} (h : ∀ c, 0 ≤ c → c < 256 → Byts (f c)) {l : List Int} (hl : Byts l) : Byts (l.flatMap f) := by
  intro x hx
  obtain ⟨c, hc, hx⟩ := List.mem_flatMap.1 hx
  exact h c (hl c hc).1 (hl c hc).2 x hx
end Go.Proofs.YtodlecjbpmggiaaGreatDoor
