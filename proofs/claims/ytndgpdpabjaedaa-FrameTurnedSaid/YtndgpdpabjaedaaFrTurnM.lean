/- Package frame: what turned bits do to a checksum. -/
import Derived.Test.YtndgpdpabjaedaaFrOpen
namespace Go.Proofs.Ytndgpdpabjaedaa
open Go.RowKit
set_option linter.unusedSimpArgs false
set_option linter.unusedVariables false

def lowC (x : BitVec 32) : BitVec 32 := x &&& ~~~((x >>> 8) <<< 8)
theorem lowC_val (T : BitVec 32) (k : Nat) : BitVec.ofInt 32 ((T.toNat : Int) / 2 ^ (8 * k) % 256) = lowC (T >>> (8 * k)) := by
  have e : (T.toNat : Int) / 2 ^ (8 * k) % 256 = ((T.toNat / 2 ^ (8 * k) % 2 ^ 8 : Nat) : Int) := by
    rw [Int.natCast_emod, Int.natCast_ediv, Int.natCast_pow]
    rfl
  rw [e]
  refine BitVec.eq_of_getLsbD_eq fun i hi => ?_
  have h1 : (BitVec.ofInt 32 ((T.toNat / 2 ^ (8 * k) % 2 ^ 8 : Nat) : Int)).getLsbD i = (T.toNat / 2 ^ (8 * k) % 2 ^ 8).testBit i := by
    rw [BitVec.ofInt_natCast, BitVec.getLsbD_ofNat]
    simp [hi]
  rw [h1, Nat.testBit_mod_two_pow, Nat.testBit_div_two_pow]
  unfold lowC
  rw [BitVec.getLsbD_and, BitVec.getLsbD_not, BitVec.getLsbD_shiftLeft, BitVec.getLsbD_ushiftRight, BitVec.getLsbD_ushiftRight]
  have h2 : T.getLsbD (8 * k + i) = T.toNat.testBit (i + 8 * k) := by rw [BitVec.getLsbD, Nat.add_comm]
  by_cases h8 : i < 8
  · simp [h8, hi, h2]
  · simp only [h8, hi, decide_false, Bool.false_and, decide_true, Bool.true_and, Bool.not_false]
    rw [BitVec.getLsbD_ushiftRight, show 8 + (i - 8) = i by omega]
    simp
theorem xor_byte (c t : Int) (hc : 0 ≤ c ∧ c < 256) (ht : 0 ≤ t ∧ t < 256) : BitVec.ofInt 32 (bits .xor .u8 c t) = BitVec.ofInt 32 c ^^^ BitVec.ofInt 32 t ∧ 0 ≤ bits .xor .u8 c t ∧ bits .xor .u8 c t < 256 := by
  have hx : c.toNat ^^^ t.toNat < 2 ^ 8 := Nat.xor_lt_two_pow (by omega) (by omega)
  rw [u8_xor c t hc.1 hc.2 ht.1 ht.2]
  refine ⟨BitVec.eq_of_toNat_eq ?_, by omega, by omega⟩
  rw [BitVec.toNat_xor, BitVec.toNat_ofInt, BitVec.toNat_ofInt, BitVec.toNat_ofInt]
  have e1 : (c % ((2 ^ 32 : Nat) : Int)).toNat = c.toNat := by omega
  have e2 : (t % ((2 ^ 32 : Nat) : Int)).toNat = t.toNat := by omega
  rw [e1, e2]
  omega
/-- How far apart two runs are, bytes after bytes. -/
def apartC (T : BitVec 32) : Nat → BitVec 32
  | 0 => 0#32
  | k + 1 => stepsC 8 (apartC T k ^^^ lowC (T >>> (8 * k)))
theorem apartC_steps (T : BitVec 32) : ∀ k, stepsC (8 * k) T = apartC T k ^^^ (T >>> (8 * k))
  | 0 => by simp [stepsC, apartC]
  | k + 1 => by
    rw [show 8 * (k + 1) = 8 * k + 8 by omega, stepsC_add, apartC_steps T k, stepsC_xor, stepsC_split 8 (T >>> (8 * k))]
    show _ = stepsC 8 (apartC T k ^^^ lowC (T >>> (8 * k))) ^^^ _
    rw [stepsC_xor, BitVec.xor_assoc, BitVec.shiftRight_add]
    rfl
theorem apartC_ne {T : BitVec 32} (h : T ≠ 0#32) : apartC T 4 ≠ 0#32 := by
  have h1 := apartC_steps T 4
  have h2 : T >>> (8 * 4) = 0#32 := by
    refine BitVec.eq_of_getLsbD_eq fun i hi => ?_
    rw [BitVec.getLsbD_ushiftRight, BitVec.getLsbD_of_ge _ _ (by omega)]
    simp
  rw [h2, BitVec.xor_zero] at h1
  rw [← h1]
  exact stepsC_ne _ h
theorem sumC_apart (P Q : List Int) (c0 c1 c2 c3 d0 d1 d2 d3 : Int) (T : BitVec 32) (hT : T ≠ 0#32)
    (h0 : BitVec.ofInt 32 d0 = BitVec.ofInt 32 c0 ^^^ lowC (T >>> (8 * 0))) (h1 : BitVec.ofInt 32 d1 = BitVec.ofInt 32 c1 ^^^ lowC (T >>> (8 * 1)))
    (h2 : BitVec.ofInt 32 d2 = BitVec.ofInt 32 c2 ^^^ lowC (T >>> (8 * 2))) (h3 : BitVec.ofInt 32 d3 = BitVec.ofInt 32 c3 ^^^ lowC (T >>> (8 * 3))) :
    sumC (P ++ (d0 :: d1 :: d2 :: d3 :: Q)) ≠ sumC (P ++ (c0 :: c1 :: c2 :: c3 :: Q)) := by
  unfold sumC
  rw [runC_append, runC_append]
  generalize runC (~~~ 0#32) P = s
  intro e
  have e : runC s (d0 :: d1 :: d2 :: d3 :: Q) = runC s (c0 :: c1 :: c2 :: c3 :: Q) := by
    have := congrArg (fun x : BitVec 32 => ~~~ x) e
    simpa using this
  have k0 : byteC s d0 = byteC s c0 ^^^ apartC T 1 := by
    have := byteC_xor s 0#32 c0 d0 _ h0
    rwa [BitVec.xor_zero] at this
  have k1 : byteC (byteC s d0) d1 = byteC (byteC s c0) c1 ^^^ apartC T 2 := by rw [k0]; exact byteC_xor _ _ c1 d1 _ h1
  have k2 : byteC (byteC (byteC s d0) d1) d2 = byteC (byteC (byteC s c0) c1) c2 ^^^ apartC T 3 := by rw [k1]; exact byteC_xor _ _ c2 d2 _ h2
  have k3 : byteC (byteC (byteC (byteC s d0) d1) d2) d3 = byteC (byteC (byteC (byteC s c0) c1) c2) c3 ^^^ apartC T 4 := by rw [k2]; exact byteC_xor _ _ c3 d3 _ h3
  have e : runC (byteC (byteC (byteC (byteC s d0) d1) d2) d3) Q = runC (byteC (byteC (byteC (byteC s c0) c1) c2) c3) Q := e
  rw [k3] at e
  exact runC_ne Q _ _ (apartC_ne hT) e
theorem dec_bad {C C' : List Int} (hl : C'.length = C.length) (h1 : 20 ≤ C.length) (h2 : C.length < 65536) (hs : sumC C' ≠ sumC C) : decR (bigI C.length 2 ++ (bigI (sumC C).toNat 4 ++ C')) = none := by
  have e1 : (bigI C.length 2 ++ (bigI (sumC C).toNat 4 ++ C')).take 2 = bigI C.length 2 := List.take_left' (bigI_length _ _)
  have e2 : (bigI C.length 2 ++ (bigI (sumC C).toNat 4 ++ C')).drop 2 = bigI (sumC C).toNat 4 ++ C' := List.drop_left' (bigI_length _ _)
  have e3 : (bigI C.length 2 ++ (bigI (sumC C).toNat 4 ++ C')).drop 6 = C' := by rw [show 6 = 2 + 4 by rfl, ← List.drop_drop, e2, List.drop_left' (bigI_length _ _)]
  have e4 : (bigI (sumC C).toNat 4 ++ C').take 4 = bigI (sumC C).toNat 4 := List.take_left' (bigI_length _ _)
  unfold decR
  rw [if_neg (by simp; omega), e1, e2, e3, e4, val_big2 (by omega) (by omega), val_big4, Int.toNat_natCast, if_neg (by simp; omega), if_pos]
  rw [List.take_of_length_le (by omega)]
  intro e
  exact hs (BitVec.eq_of_toNat_eq (by omega)).symm

theorem OwnB.stored {w : World} {B g cap : Nat} {l : List Int} (h : OwnB w B (some ⟨g, 0, none⟩) cap l) (j : Nat) (x : Int) : OwnB (w.setCell ⟨g, j, none⟩ (.int .u8 x)) B (some ⟨g, 0, none⟩) cap (l.set j x) := by
  have := (World.ownsRow.stored h j (.int .u8 x)).1
  unfold OwnB
  rw [List.length_set, List.map_set]
  exact this
/-- Bytes i, i + 1, .., k of them, with the bytes of T turned. -/
def turnL (E : List Int) (i : Nat) (T : Int) : Nat → List Int
  | 0 => E
  | k + 1 => (turnL E i T k).set (i + k) (bits .xor .u8 (E.getD (i + k) 0) (T / 2 ^ (8 * k) % 256))
theorem turnL_length (E : List Int) (i : Nat) (T : Int) : ∀ k, (turnL E i T k).length = E.length
  | 0 => rfl
  | k + 1 => by rw [turnL, List.length_set, turnL_length E i T k]
theorem turnL_at (E : List Int) (i : Nat) (T : Int) : ∀ (k j : Nat), k ≤ j → (turnL E i T k)[i + j]? = E[i + j]?
  | 0, _, _ => rfl
  | k + 1, j, h => by rw [turnL, List.getElem?_set_ne (by omega), turnL_at E i T k j (by omega)]
theorem turnL_four (A Q : List Int) (c0 c1 c2 c3 T : Int) : turnL (A ++ (c0 :: c1 :: c2 :: c3 :: Q)) A.length T 4 = A ++ (bits .xor .u8 c0 (T / 2 ^ (8 * 0) % 256) :: bits .xor .u8 c1 (T / 2 ^ (8 * 1) % 256) :: bits .xor .u8 c2 (T / 2 ^ (8 * 2) % 256) :: bits .xor .u8 c3 (T / 2 ^ (8 * 3) % 256) :: Q) := by
  simp [turnL, List.getD_eq_getElem?_getD, List.set_append]
theorem turned_none {r : Rc} (h : soundR r) {i : Nat} (h6 : 6 ≤ i) (hi : i + 4 ≤ (encR r).length) (T : BitVec 32) (hT : T ≠ 0#32) : decR (turnL (encR r) i T.toNat 4) = none ∧ Byts (turnL (encR r) i T.toNat 4) := by
  have hl := contR_length r
  obtain ⟨_, _, _, _, _, _, h7, h8⟩ := id h
  have hcb := contR_byts h
  generalize hC : contR r = C at *
  have hE : encR r = bigI C.length 2 ++ (bigI (sumC C).toNat 4 ++ C) := by unfold encR recB; rw [hC]
  have hlen : (encR r).length = 6 + C.length := by unfold encR; rw [recB_length, hC]
  obtain ⟨P, R, hP, rfl⟩ : ∃ P R, P.length = i - 6 ∧ C = P ++ R := ⟨C.take (i - 6), C.drop (i - 6), by rw [List.length_take]; omega, (List.take_append_drop _ _).symm⟩
  have hR : 4 ≤ R.length := by rw [List.length_append] at hlen; omega
  match R, hR with
  | c0 :: c1 :: c2 :: c3 :: Q, _ =>
    have hA : (bigI (P ++ (c0 :: c1 :: c2 :: c3 :: Q)).length 2 ++ (bigI (sumC (P ++ (c0 :: c1 :: c2 :: c3 :: Q))).toNat 4 ++ P)).length = i := by simp [hP]; omega
    have hE2 : encR r = (bigI (P ++ (c0 :: c1 :: c2 :: c3 :: Q)).length 2 ++ (bigI (sumC (P ++ (c0 :: c1 :: c2 :: c3 :: Q))).toNat 4 ++ P)) ++ (c0 :: c1 :: c2 :: c3 :: Q) := by rw [hE]; simp
    have hb := hcb.right
    have b0 := hb c0 (by simp)
    have b1 := hb c1 (by simp)
    have b2 := hb c2 (by simp)
    have b3 := hb c3 (by simp)
    have tb : ∀ k : Nat, 0 ≤ (T.toNat : Int) / 2 ^ (8 * k) % 256 ∧ (T.toNat : Int) / 2 ^ (8 * k) % 256 < 256 := fun k => ⟨Int.emod_nonneg _ (by decide), Int.emod_lt_of_pos _ (by decide)⟩
    obtain ⟨x0, y0, z0⟩ := xor_byte c0 _ b0 (tb 0)
    obtain ⟨x1, y1, z1⟩ := xor_byte c1 _ b1 (tb 1)
    obtain ⟨x2, y2, z2⟩ := xor_byte c2 _ b2 (tb 2)
    obtain ⟨x3, y3, z3⟩ := xor_byte c3 _ b3 (tb 3)
    rw [lowC_val] at x0 x1 x2 x3
    have hF := turnL_four (bigI (P ++ (c0 :: c1 :: c2 :: c3 :: Q)).length 2 ++ (bigI (sumC (P ++ (c0 :: c1 :: c2 :: c3 :: Q))).toNat 4 ++ P)) Q c0 c1 c2 c3 T.toNat
    rw [hA, ← hE2] at hF
    rw [hF, List.append_assoc, List.append_assoc]
    have hbQ : Byts Q := fun c hc => hb c (by simp [hc])
    refine ⟨dec_bad (by simp) (by rw [hl]; omega) (by rw [hl]; omega) (sumC_apart P Q c0 c1 c2 c3 _ _ _ _ T hT x0 x1 x2 x3), ?_⟩
    exact (bigI_byts _ _).append ((bigI_byts _ _).append (hcb.left.append (Byts.mk ⟨y0, z0⟩ (Byts.mk ⟨y1, z1⟩ (Byts.mk ⟨y2, z2⟩ (Byts.mk ⟨y3, z3⟩ hbQ))))))
end Go.Proofs.Ytndgpdpabjaedaa
