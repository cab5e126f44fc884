/- Part of a chain: FrMath. -/
import Derived.WalkKit
/- Package frame: the mathematics of records' bytes. No program here. -/
namespace Go.Proofs.YtimkgaokcldgkaaGreatDoor
open Go.RowKit

/-- Bytes. -/
def Byts (l : List Int) : Prop := ∀ c ∈ l, 0 ≤ c ∧ c < 256
theorem Byts.nil : Byts [] := fun _ h => by cases h
theorem Byts.cons {c : Int} {l : List Int} (h : Byts (c :: l)) : (0 ≤ c ∧ c < 256) ∧ Byts l := ⟨h c (by simp), fun x hx => h x (by simp [hx])⟩
theorem Byts.mk {c : Int} {l : List Int} (h : 0 ≤ c ∧ c < 256) (hl : Byts l) : Byts (c :: l) := by
  intro x hx
  rcases List.mem_cons.1 hx with rfl | hx
  · exact h
  · exact hl x hx
theorem Byts.append {a b : List Int} (ha : Byts a) (hb : Byts b) : Byts (a ++ b) := by
  intro x hx
  rcases List.mem_append.1 hx with h | h
  · exact ha x h
  · exact hb x h
theorem Byts.left {a b : List Int} (h : Byts (a ++ b)) : Byts a := fun x hx => h x (by simp [hx])
theorem Byts.right {a b : List Int} (h : Byts (a ++ b)) : Byts b := fun x hx => h x (by simp [hx])
theorem Byts.take {a : List Int} (h : Byts a) (n : Nat) : Byts (a.take n) := fun x hx => h x (List.mem_of_mem_take hx)
theorem Byts.drop {a : List Int} (h : Byts a) (n : Nat) : Byts (a.drop n) := fun x hx => h x (List.mem_of_mem_drop hx)

/-- A number's bytes, the highest first. -/
def bigI (n : Int) : Nat → List Int
  | 0 => []
  | k + 1 => n / 256 ^ k % 256 :: bigI n k
@[simp] theorem bigI_length (n : Int) : ∀ k, (bigI n k).length = k
  | 0 => rfl
  | k + 1 => by simp [bigI, bigI_length n k]
theorem bigI_byts (n : Int) : ∀ k, Byts (bigI n k)
  | 0 => Byts.nil
  | k + 1 => Byts.mk ⟨Int.emod_nonneg _ (by decide), Int.emod_lt_of_pos _ (by decide)⟩ (bigI_byts n k)
theorem bigI_get (n : Int) : ∀ (k i : Nat), i < k → (bigI n k)[i]? = some (n / 256 ^ (k - 1 - i) % 256)
  | 0, i, h => by omega
  | k + 1, 0, _ => by simp [bigI]
  | k + 1, i + 1, h => by
    rw [bigI, List.getElem?_cons_succ, bigI_get n k i (by omega)]
    congr 4
    omega
/-- The number that bytes are. -/
def valI (l : List Int) : Int := l.foldl (fun a c => a * 256 + c) 0
theorem fold_val (l : List Int) : ∀ a : Int, l.foldl (fun a c => a * 256 + c) a = a * 256 ^ l.length + valI l := by
  induction l with
  | nil => intro a; simp [valI]
  | cons c l ih =>
    intro a
    have h1 := ih (a * 256 + c)
    have h2 := ih (0 * 256 + c)
    unfold valI
    rw [List.foldl_cons, List.foldl_cons, h1, h2, List.length_cons, Int.pow_succ]
    rw [Int.add_mul, Int.zero_mul, Int.zero_add, Int.mul_assoc, Int.mul_comm 256]
    omega
theorem valI_cons (c : Int) (l : List Int) : valI (c :: l) = c * 256 ^ l.length + valI l := by
  have := fold_val l (0 * 256 + c)
  unfold valI
  rw [List.foldl_cons, this]
  simp [valI]
theorem valI_snoc (l : List Int) (c : Int) : valI (l ++ [c]) = valI l * 256 + c := by simp [valI, List.foldl_append]
theorem valI_lt : ∀ (l : List Int), Byts l → 0 ≤ valI l ∧ valI l < 256 ^ l.length
  | [], _ => by simp [valI]
  | c :: l, h => by
    obtain ⟨⟨h0, h1⟩, hl⟩ := h.cons
    obtain ⟨g0, g1⟩ := valI_lt l hl
    rw [valI_cons, List.length_cons, Int.pow_succ]
    have hp : (0 : Int) < 256 ^ l.length := Int.pow_pos (by decide)
    have h2 : 0 ≤ c * 256 ^ l.length := Int.mul_nonneg h0 (by omega)
    have h3 : (c + 1) * 256 ^ l.length ≤ 256 * 256 ^ l.length := Int.mul_le_mul_of_nonneg_right (by omega) (by omega)
    rw [Int.add_mul] at h3
    rw [Int.mul_comm _ 256]
    omega
theorem mod_step (n p : Int) (hp : 0 < p) : n / p % 256 * p + n % p = n % (p * 256) := by
  have h1 := Int.emod_nonneg n (show p ≠ 0 by omega)
  have h2 := Int.emod_lt_of_pos n hp
  have h3 := Int.mul_ediv_add_emod n p
  have h4 := Int.mul_ediv_add_emod (n / p) 256
  have h5 := Int.emod_nonneg (n / p) (show (256 : Int) ≠ 0 by decide)
  have h6 := Int.emod_lt_of_pos (n / p) (show (0 : Int) < 256 by decide)
  generalize n / p % 256 = k at *
  generalize n / p / 256 = m at *
  generalize n % p = r at *
  generalize n / p = q at *
  have h8 : 0 ≤ k * p := Int.mul_nonneg h5 (by omega)
  have h9 : (k + 1) * p ≤ 256 * p := Int.mul_le_mul_of_nonneg_right (by omega) (by omega)
  rw [Int.add_mul] at h9
  have h7 : n = (k * p + r) + p * 256 * m := by
    rw [← h3, ← h4, Int.mul_add, ← Int.mul_assoc, Int.mul_comm p k]
    omega
  rw [h7, Int.add_mul_emod_self_left, Int.emod_eq_of_lt (by omega) (by rw [Int.mul_comm p 256]; omega)]
theorem val_big (n : Int) : ∀ k, valI (bigI n k) = n % 256 ^ k
  | 0 => by simp [bigI, valI]
  | k + 1 => by
    rw [bigI, valI_cons, val_big n k, bigI_length, Int.pow_succ]
    exact mod_step n _ (Int.pow_pos (by decide))
theorem val_inj : ∀ (a b : List Int), Byts a → Byts b → a.length = b.length → valI a = valI b → a = b
  | [], [], _, _, _, _ => rfl
  | [], _ :: _, _, _, h, _ => by simp at h
  | _ :: _, [], _, _, h, _ => by simp at h
  | c :: a, d :: b, ha', hb', hl, hv => by
    obtain ⟨hc, ha⟩ := ha'.cons
    obtain ⟨hd, hb⟩ := hb'.cons
    clear ha' hb'
    replace hl : a.length = b.length := by simpa using hl
    rw [valI_cons, valI_cons, hl] at hv
    obtain ⟨a0, a1⟩ := valI_lt a ha
    obtain ⟨b0, b1⟩ := valI_lt b hb
    rw [hl] at a1
    have hp : (0 : Int) < 256 ^ b.length := Int.pow_pos (by decide)
    generalize (256 : Int) ^ b.length = p at *
    have hcd : c = d := by
      rcases Int.lt_trichotomy c d with h | h | h
      · have := Int.mul_le_mul_of_nonneg_right (show c + 1 ≤ d by omega) (show 0 ≤ p by omega)
        rw [Int.add_mul] at this
        omega
      · exact h
      · have := Int.mul_le_mul_of_nonneg_right (show d + 1 ≤ c by omega) (show 0 ≤ p by omega)
        rw [Int.add_mul] at this
        omega
    subst hcd
    rw [val_inj a b ha hb hl (by omega)]
theorem big_val (l : List Int) (h : Byts l) : bigI (valI l) l.length = l := by
  obtain ⟨h0, h1⟩ := valI_lt l h
  exact val_inj _ _ (bigI_byts _ _) h (bigI_length _ _) (by rw [val_big, Int.emod_eq_of_lt h0 h1])

/-! The checksum. -/
def polyC : BitVec 32 := 0xedb88320#32
def stepC (s : BitVec 32) : BitVec 32 := if s.getLsbD 0 then (s >>> 1) ^^^ polyC else s >>> 1
def stepsC : Nat → BitVec 32 → BitVec 32
  | 0, s => s
  | n + 1, s => stepsC n (stepC s)
def byteC (s : BitVec 32) (c : Int) : BitVec 32 := stepsC 8 (s ^^^ BitVec.ofInt 32 c)
def runC (s : BitVec 32) (l : List Int) : BitVec 32 := l.foldl byteC s
def sumC (l : List Int) : BitVec 32 := ~~~ (runC (~~~ 0#32) l)
theorem stepsC_add : ∀ (n m : Nat) (a : BitVec 32), stepsC (n + m) a = stepsC m (stepsC n a)
  | 0, m, a => by rw [Nat.zero_add]; rfl
  | n + 1, m, a => by rw [show n + 1 + m = (n + m) + 1 by omega, stepsC, stepsC, stepsC_add n m]
theorem runC_append (s : BitVec 32) (a b : List Int) : runC s (a ++ b) = runC (runC s a) b := by simp [runC, List.foldl_append]

/-! Strings and bytes. -/
def btL (s : ByteArray) : List Int := s.data.toList.map fun c => (c.toNat : Int)
def strL (l : List Int) : ByteArray := ⟨(l.map fun z => UInt8.ofNat z.toNat).toArray⟩
@[simp] theorem btL_length (s : ByteArray) : (btL s).length = s.size := by simp [btL]
@[simp] theorem strL_size (l : List Int) : (strL l).size = l.length := by simp [strL, ByteArray.size]
theorem btL_byts (s : ByteArray) : Byts (btL s) := by
  intro c hc
  obtain ⟨x, _, rfl⟩ := List.mem_map.1 hc
  have := x.toNat_lt
  simp at this ⊢
  omega
theorem btL_strL {l : List Int} (h : Byts l) : btL (strL l) = l := by
  unfold btL strL
  simp only [List.map_map]
  conv => rhs; rw [← List.map_id l]
  refine List.map_congr_left fun c hc => ?_
  obtain ⟨h0, h1⟩ := h c hc
  simp only [Function.comp_apply, UInt8.toNat_ofNat', id]
  omega
theorem strL_btL (s : ByteArray) : strL (btL s) = s := by
  unfold btL strL
  simp only [List.map_map]
  have : s.data.toList.map ((fun z : Int => UInt8.ofNat z.toNat) ∘ fun c : UInt8 => (c.toNat : Int)) = s.data.toList := by
    conv => rhs; rw [← List.map_id s.data.toList]
    refine List.map_congr_left fun c _ => ?_
    simp
  rw [this]
/-! Records. -/
structure Rc where
  kind : Int
  id : Int
  host : ByteArray
  path : ByteArray
  prio : Int
  till : Int
def soundR (r : Rc) : Prop := 1 ≤ r.kind ∧ r.kind ≤ 3 ∧ 0 ≤ r.id ∧ 0 ≤ r.till ∧ 0 ≤ r.prio ∧ r.prio ≤ 7 ∧ r.host.size ≤ 256 ∧ r.path.size ≤ 768
instance (r : Rc) : Decidable (soundR r) := by unfold soundR; infer_instance
def FitR (r : Rc) : Prop := r.id < 9223372036854775808 ∧ r.till < 9223372036854775808
def contR (r : Rc) : List Int := r.kind :: r.prio :: (bigI r.id 8 ++ (bigI r.till 8 ++ (bigI r.host.size 2 ++ (btL r.host ++ btL r.path))))
def recB (c : List Int) : List Int := bigI c.length 2 ++ (bigI (sumC c).toNat 4 ++ c)
def encR (r : Rc) : List Int := recB (contR r)
theorem contR_length (r : Rc) : (contR r).length = 20 + (r.host.size + r.path.size) := by simp [contR]; omega
theorem contR_byts {r : Rc} (h : soundR r) : Byts (contR r) := by
  obtain ⟨h1, h2, _, _, h3, h4, _, _⟩ := h
  exact Byts.mk ⟨by omega, by omega⟩ (Byts.mk ⟨h3, by omega⟩ ((bigI_byts _ _).append ((bigI_byts _ _).append ((bigI_byts _ _).append ((btL_byts _).append (btL_byts _))))))
theorem recB_length (c : List Int) : (recB c).length = 6 + c.length := by simp [recB]; omega
theorem recB_byts {c : List Int} (h : Byts c) : Byts (recB c) := (bigI_byts _ _).append ((bigI_byts _ _).append h)

/-- The first record of bytes, and its size. -/
def decR (b : List Int) : Option (Rc × Nat) :=
  if b.length < 6 then none
  else if b.length < 6 + (valI (b.take 2)).toNat ∨ 6 + (valI (b.take 2)).toNat < 26 then none
  else if valI ((b.drop 2).take 4) ≠ (sumC ((b.drop 6).take (valI (b.take 2)).toNat)).toNat then none
  else
    let c := (b.drop 6).take (valI (b.take 2)).toNat
    if (c.drop 20).length < (valI ((c.drop 18).take 2)).toNat then none
    else
      let h := (valI ((c.drop 18).take 2)).toNat
      let r : Rc := ⟨c.getD 0 0, wrap64 (valI ((c.drop 2).take 8)), strL ((c.drop 20).take h), strL ((c.drop 20).drop h), c.getD 1 0, wrap64 (valI ((c.drop 10).take 8))⟩
      if soundR r then some (r, 6 + (valI (b.take 2)).toNat) else none
theorem decR_parts {A S C I U H X Y rest : List Int} {k p : Int} (hA : A.length = 2) (hS : S.length = 4) (hI : I.length = 8) (hU : U.length = 8) (hH : H.length = 2)
    (hC : C = k :: p :: (I ++ (U ++ (H ++ (X ++ Y))))) (vA : valI A = C.length) (vS : valI S = (sumC C).toNat) (vH : valI H = X.length) :
    decR (A ++ (S ++ (C ++ rest))) = if soundR ⟨k, wrap64 (valI I), strL X, strL Y, p, wrap64 (valI U)⟩ then some (⟨k, wrap64 (valI I), strL X, strL Y, p, wrap64 (valI U)⟩, 6 + C.length) else none := by
  have h1 : (A ++ (S ++ (C ++ rest))).take 2 = A := List.take_left' hA
  have h2 : (A ++ (S ++ (C ++ rest))).drop 2 = S ++ (C ++ rest) := List.drop_left' hA
  have h3 : (A ++ (S ++ (C ++ rest))).drop 6 = C ++ rest := by rw [show 6 = 2 + 4 by rfl, ← List.drop_drop, h2, List.drop_left' hS]
  have h4 : (S ++ (C ++ rest)).take 4 = S := List.take_left' hS
  have h5 : (C ++ rest).take C.length = C := List.take_left' rfl
  have c2 : C.drop 2 = I ++ (U ++ (H ++ (X ++ Y))) := by rw [hC]; rfl
  have c10 : C.drop 10 = U ++ (H ++ (X ++ Y)) := by rw [show 10 = 2 + 8 by rfl, ← List.drop_drop, c2, List.drop_left' hI]
  have c18 : C.drop 18 = H ++ (X ++ Y) := by rw [show 18 = 10 + 8 by rfl, ← List.drop_drop, c10, List.drop_left' hU]
  have c20 : C.drop 20 = X ++ Y := by rw [show 20 = 18 + 2 by rfl, ← List.drop_drop, c18, List.drop_left' hH]
  have t2 : (I ++ (U ++ (H ++ (X ++ Y)))).take 8 = I := List.take_left' hI
  have t10 : (U ++ (H ++ (X ++ Y))).take 8 = U := List.take_left' hU
  have t18 : (H ++ (X ++ Y)).take 2 = H := List.take_left' hH
  have tx : (X ++ Y).take X.length = X := List.take_left' rfl
  have dx : (X ++ Y).drop X.length = Y := List.drop_left' rfl
  have g0 : C.getD 0 0 = k := by rw [hC]; rfl
  have g1 : C.getD 1 0 = p := by rw [hC]; rfl
  have hl : C.length = 20 + (X.length + Y.length) := by rw [hC]; simp; omega
  unfold decR
  rw [if_neg (by simp; omega)]
  simp only [h1, h2, h3, vA, Int.toNat_natCast, h4, h5, vS]
  rw [if_neg (by simp; omega), if_neg (by simp)]
  simp only [c20, c18, t18, vH, Int.toNat_natCast, c2, c10, t2, t10, tx, dx, g0, g1]
  rw [if_neg (by simp)]
theorem wrap64_id {n : Int} (h0 : 0 ≤ n) (h1 : n < 9223372036854775808) : wrap64 n = n := by unfold wrap64; omega
theorem wrap64_nat {n : Int} (h0 : 0 ≤ n) (h1 : n < 18446744073709551616) (h : 0 ≤ wrap64 n) : wrap64 n = n ∧ n < 9223372036854775808 := by unfold wrap64 at *; omega
theorem val_big8 {n : Int} (h0 : 0 ≤ n) (h1 : n < 9223372036854775808) : valI (bigI n 8) = n := by rw [val_big]; omega
theorem val_big2 {n : Int} (h0 : 0 ≤ n) (h1 : n < 65536) : valI (bigI n 2) = n := by rw [val_big]; omega
theorem val_big4 (n : BitVec 32) : valI (bigI n.toNat 4) = n.toNat := by
  have := n.isLt
  rw [val_big]
  omega
/-- What was encoded is decoded, whatever stands behind it. -/
theorem dec_enc {r : Rc} (h : soundR r) (hf : FitR r) (rest : List Int) : decR (encR r ++ rest) = some (r, (encR r).length) := by
  have hs := h
  obtain ⟨h1, h2, h3, h4, h5, h6, h7, h8⟩ := h
  have hl := contR_length r
  unfold encR
  rw [recB_length]
  unfold recB
  rw [List.append_assoc, List.append_assoc,
    decR_parts (rest := rest) (C := contR r) (k := r.kind) (p := r.prio) (X := btL r.host) (Y := btL r.path) (bigI_length _ 2) (bigI_length _ 4) (bigI_length r.id 8) (bigI_length r.till 8) (bigI_length r.host.size 2) rfl (val_big2 (by omega) (by omega)) (val_big4 _) (by rw [btL_length]; exact val_big2 (by omega) (by omega)),
    val_big8 h3 hf.1, val_big8 h4 hf.2, wrap64_id h3 hf.1, wrap64_id h4 hf.2, strL_btL, strL_btL, if_pos hs]
theorem enc_inv {b : List Int} (hb : Byts b) {r : Rc} {n : Nat} (h : decR b = some (r, n)) :
    soundR r ∧ FitR r ∧ n ≤ b.length ∧ 26 ≤ n ∧ n = (encR r).length ∧ b = encR r ++ b.drop n := by
  unfold decR at h
  split at h
  · cases h
  split at h
  · cases h
  split at h
  · cases h
  simp only at h
  split at h
  · cases h
  split at h
  rotate_left
  · cases h
  rename_i g1 g2 g3 g4 g5
  simp only [not_or, Nat.not_lt, List.length_drop] at g1 g2 g4
  rw [← List.length_drop] at g4
  have g3 : valI ((b.drop 2).take 4) = (sumC ((b.drop 6).take (valI (b.take 2)).toNat)).toNat := Decidable.not_not.1 g3
  injection h with h
  injection h with hr hn
  generalize hm : (valI (b.take 2)).toNat = m at *
  generalize hC : (b.drop 6).take m = C at *
  generalize hh : (valI ((C.drop 18).take 2)).toNat = hl at *
  have hbC : Byts C := hC ▸ (hb.drop 6).take m
  have lC : C.length = m := by rw [← hC]; simp; omega
  have vA := valI_lt (b.take 2) (hb.take 2)
  have vH := valI_lt ((C.drop 18).take 2) ((hbC.drop 18).take 2)
  have vI := valI_lt ((C.drop 2).take 8) ((hbC.drop 2).take 8)
  have vU := valI_lt ((C.drop 10).take 8) ((hbC.drop 10).take 8)
  rw [show ((C.drop 2).take 8).length = 8 by simp; omega] at vI
  rw [show ((C.drop 10).take 8).length = 8 by simp; omega] at vU
  have hs := g5
  rw [hr] at hs
  have eI : wrap64 (valI ((C.drop 2).take 8)) = r.id := by rw [← hr]
  have eU : wrap64 (valI ((C.drop 10).take 8)) = r.till := by rw [← hr]
  have eX : strL ((C.drop 20).take hl) = r.host := by rw [← hr]
  have eY : strL ((C.drop 20).drop hl) = r.path := by rw [← hr]
  have e0 : C.getD 0 0 = r.kind := by rw [← hr]
  have e1 : C.getD 1 0 = r.prio := by rw [← hr]
  obtain ⟨fI, fI2⟩ := wrap64_nat vI.1 vI.2 (by rw [eI]; exact hs.2.2.1)
  obtain ⟨fU, fU2⟩ := wrap64_nat vU.1 vU.2 (by rw [eU]; exact hs.2.2.2.1)
  have sX : btL r.host = (C.drop 20).take hl := by rw [← eX]; exact btL_strL ((hbC.drop 20).take hl)
  have sY : btL r.path = (C.drop 20).drop hl := by rw [← eY]; exact btL_strL ((hbC.drop 20).drop hl)
  have zX : r.host.size = hl := by rw [List.length_drop] at g4; rw [← btL_length, sX]; simp; omega
  have hcont : contR r = C := by
    have b1 : bigI r.id 8 = (C.drop 2).take 8 := by
      rw [← eI, fI]
      have := big_val ((C.drop 2).take 8) ((hbC.drop 2).take 8)
      rwa [show ((C.drop 2).take 8).length = 8 by simp; omega] at this
    have b2 : bigI r.till 8 = (C.drop 10).take 8 := by
      rw [← eU, fU]
      have := big_val ((C.drop 10).take 8) ((hbC.drop 10).take 8)
      rwa [show ((C.drop 10).take 8).length = 8 by simp; omega] at this
    have b3 : bigI r.host.size 2 = (C.drop 18).take 2 := by
      have := big_val ((C.drop 18).take 2) ((hbC.drop 18).take 2)
      rw [show ((C.drop 18).take 2).length = 2 by simp; omega] at this
      rw [zX, ← hh, Int.toNat_of_nonneg vH.1, this]
    unfold contR
    rw [b1, b2, b3, sX, sY, List.take_append_drop, ← e0, ← e1]
    have d18 : (C.drop 18).take 2 ++ C.drop 20 = C.drop 18 := by rw [show C.drop 20 = (C.drop 18).drop 2 by rw [List.drop_drop], List.take_append_drop]
    have d10 : (C.drop 10).take 8 ++ C.drop 18 = C.drop 10 := by rw [show C.drop 18 = (C.drop 10).drop 8 by rw [List.drop_drop], List.take_append_drop]
    have d2 : (C.drop 2).take 8 ++ C.drop 10 = C.drop 2 := by rw [show C.drop 10 = (C.drop 2).drop 8 by rw [List.drop_drop], List.take_append_drop]
    rw [d18, d10, d2]
    match C, lC with
    | x :: y :: C', _ => rfl
    | [], h => simp at h; omega
    | [x], h => simp at h; omega
  have hlen : n = (encR r).length := by
    unfold encR
    rw [recB_length, hcont, lC, ← hn]
  refine ⟨hs, ⟨by rw [← eI, fI]; exact fI2, by rw [← eU, fU]; exact fU2⟩, by omega, by omega, hlen, ?_⟩
  unfold encR recB
  rw [hcont]
  have b1 : bigI C.length 2 = b.take 2 := by
    have := big_val (b.take 2) (hb.take 2)
    rw [show (b.take 2).length = 2 by simp; omega] at this
    rw [lC, ← hm, Int.toNat_of_nonneg vA.1, this]
  have b2 : bigI (sumC C).toNat 4 = (b.drop 2).take 4 := by
    have := big_val ((b.drop 2).take 4) ((hb.drop 2).take 4)
    rw [show ((b.drop 2).take 4).length = 4 by simp; omega, g3] at this
    exact this
  rw [b1, b2, ← hn, ← hC, List.append_assoc, List.append_assoc]
  rw [show b.drop (6 + m) = (b.drop 6).drop m by rw [List.drop_drop], List.take_append_drop, show b.drop 6 = (b.drop 2).drop 4 by rw [List.drop_drop], List.take_append_drop, List.take_append_drop]
theorem encR_ge (r : Rc) : 26 ≤ (encR r).length := by unfold encR; rw [recB_length, contR_length]; omega
/-! All records that bytes begin with. -/
def flatR (rs : List Rc) : List Int := rs.flatMap encR
def Scanned (b : List Int) (rs : List Rc) (n : Nat) : Prop := (∀ r ∈ rs, soundR r ∧ FitR r) ∧ n = (flatR rs).length ∧ b = flatR rs ++ b.drop n ∧ decR (b.drop n) = none
theorem Scanned.one : ∀ {rs rs' : List Rc} {b : List Int} {n n' : Nat}, Scanned b rs n → Scanned b rs' n' → rs = rs' ∧ n = n'
  | [], [], b, n, n', h, h' => ⟨rfl, by rw [h.2.1, h'.2.1]⟩
  | [], r' :: rs', b, n, n', h, h' => by
    exfalso
    obtain ⟨_, hn, _, hd⟩ := h
    obtain ⟨hr, _, hb, _⟩ := h'
    rw [hn] at hd
    simp only [flatR, List.flatMap_nil, List.length_nil, List.drop_zero] at hd
    obtain ⟨h1, h2⟩ := hr r' (by simp)
    rw [hb, flatR, List.flatMap_cons, List.append_assoc, dec_enc h1 h2] at hd
    cases hd
  | r :: rs, [], b, n, n', h', h => by
    exfalso
    obtain ⟨_, hn, _, hd⟩ := h
    obtain ⟨hr, _, hb, _⟩ := h'
    rw [hn] at hd
    simp only [flatR, List.flatMap_nil, List.length_nil, List.drop_zero] at hd
    obtain ⟨h1, h2⟩ := hr r (by simp)
    rw [hb, flatR, List.flatMap_cons, List.append_assoc, dec_enc h1 h2] at hd
    cases hd
  | r :: rs, r' :: rs', b, n, n', h, h' => by
    obtain ⟨hr, hn, hb, hd⟩ := h
    obtain ⟨hr', hn', hb', hd'⟩ := h'
    obtain ⟨h1, h2⟩ := hr r (by simp)
    obtain ⟨h1', h2'⟩ := hr' r' (by simp)
    have e1 : decR b = some (r, (encR r).length) := by rw [hb, flatR, List.flatMap_cons, List.append_assoc, dec_enc h1 h2]
    have e2 : decR b = some (r', (encR r').length) := by rw [hb', flatR, List.flatMap_cons, List.append_assoc, dec_enc h1' h2']
    rw [e1] at e2
    injection e2 with e2
    injection e2 with e2 _
    subst e2
    have f1 : n = (encR r).length + (flatR rs).length := by rw [hn]; simp [flatR]
    have f2 : n' = (encR r).length + (flatR rs').length := by rw [hn']; simp [flatR]
    have d1 : b.drop n = (b.drop (encR r).length).drop (flatR rs).length := by rw [List.drop_drop, f1]
    have d2 : b.drop n' = (b.drop (encR r).length).drop (flatR rs').length := by rw [List.drop_drop, f2]
    have k1 : b.drop (encR r).length = flatR rs ++ b.drop n := by
      conv => lhs; rw [hb, flatR, List.flatMap_cons, List.append_assoc]
      rw [List.drop_left' rfl]
      rfl
    have k2 : b.drop (encR r).length = flatR rs' ++ b.drop n' := by
      conv => lhs; rw [hb', flatR, List.flatMap_cons, List.append_assoc]
      rw [List.drop_left' rfl]
      rfl
    rw [d1] at hd k1
    rw [d2] at hd' k2
    obtain ⟨e3, e4⟩ := Scanned.one (rs := rs) (rs' := rs') (b := b.drop (encR r).length) ⟨fun x hx => hr x (by simp [hx]), rfl, k1, hd⟩ ⟨fun x hx => hr' x (by simp [hx]), rfl, k2, hd'⟩
    exact ⟨by rw [e3], by rw [f1, f2, e3]⟩
end Go.Proofs.YtimkgaokcldgkaaGreatDoor
