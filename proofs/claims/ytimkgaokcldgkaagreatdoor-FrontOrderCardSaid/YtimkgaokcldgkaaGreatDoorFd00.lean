/- Part of a chain: Box, CmpM, Forget, FrMath, DkMath, QuMath, SpMap, FnMath, SpMath, Last, LastM, Row, ShelfD, ShelfE, SrMath, Deep, Frame. -/
import Derived.WalkKit
import Derived.WalkSpells
import Derived.WalkLawsBesides
import Derived.Lib.Hide
import Derived.Below
import Derived.OneCell
import Derived.Laws.Tables
import Derived.Laws.CopyOwn
import Derived.Laws.AppendOwn
import Derived.Test.YtimkgaokcldgkaaGreatDoorChecked
import Derived.Maps.OwnSet
import Derived.Maps.Range
import Derived.Maps.Views
import Derived.Lib.SlKeysI
import Derived.OrdersHeld
import Derived.Deep.RegionHeld
import Derived.Laws.Rows
import Derived.Shelf.SlIterI.Nil
import Derived.Shelf.SortM.Plain
import Derived.Shelf.SortM.SortNone
import Derived.Test.YtimkgaokcldgkaaGreatDoorProg
import Derived.Sort.Lot0
import Derived.Sort.LotA
import Derived.ProofKit
import Derived.OpenShut
import Derived.Lib.SmallJoins
import Derived.Deep.Slices
import Derived.Test.YtimkgaokcldgkaaGreatDoorRows
import Derived.ShutString
import Derived.ChangeOld
import Derived.SliceStrings
import Derived.Deep.Grids
/- Blocks that a call has made itself: what they hold, and what becomes of them. No program here. -/
namespace Go.Proofs.YtimkgaokcldgkaaGreatDoor
open Go.RowKit

/-- Block b holds these cells, and may be written. -/
def Box (w : World) (b : Nat) (cs : Array Value) (t : TypeId) : Prop := w.heap[b]? = some (.cells cs t (0, 0))
theorem cell_blk {w w' : World} {b : Nat} (h : w'.heap[b]? = w.heap[b]?) (j : Nat) : w'.cell? ⟨b, j, none⟩ = w.cell? ⟨b, j, none⟩ := by
  unfold World.cell?
  rw [h]
theorem frz_blk {w w' : World} {b : Nat} (h : w'.heap[b]? = w.heap[b]?) (j : Nat) : w'.frozen? ⟨b, j, none⟩ = w.frozen? ⟨b, j, none⟩ := by
  unfold World.frozen?
  rw [h]
theorem Box.lt {w : World} {b : Nat} {cs : Array Value} {t : TypeId} (h : Box w b cs t) : b < w.heap.size := lt_of_block h
theorem Box.cell {w : World} {b : Nat} {cs : Array Value} {t : TypeId} (h : Box w b cs t) (i : Nat) : w.cell? ⟨b, i, none⟩ = cs[i]? := by
  unfold Box at h
  simp [World.cell?, h]
theorem Box.free {w : World} {b : Nat} {cs : Array Value} {t : TypeId} (h : Box w b cs t) (i : Nat) : w.frozen? ⟨b, i, none⟩ = false := by
  unfold Box at h
  simp [World.frozen?, h]
theorem Box.new (w : World) (cs : Array Value) (t : TypeId) : Box (w.alloc (.cells cs t)) w.heap.size cs t := heap_alloc_new w _
theorem Box.alloc {w : World} {b : Nat} {cs : Array Value} {t : TypeId} (h : Box w b cs t) (o : Obj) : Box (w.alloc o) b cs t := (Below.heap_alloc w o b h.lt).trans h
theorem Box.drew {w : World} {b : Nat} {cs : Array Value} {t : TypeId} (h : Box w b cs t) : Box w.drew b cs t := h
theorem Box.drewN {w : World} {b : Nat} {cs : Array Value} {t : TypeId} (h : Box w b cs t) (n : Nat) : Box (w.drewN n) b cs t := h
theorem Box.below {w w' : World} {b : Nat} {cs : Array Value} {t : TypeId} (h : Box w b cs t) {B : Nat} (hb : Below B w w') (hB : b < B) : Box w' b cs t := (hb.block b hB).trans h
theorem Box.later {w w' : World} {b : Nat} {cs : Array Value} {t : TypeId} (h : Box w b cs t) (hb : Below w.heap.size w w') : Box w' b cs t := h.below hb h.lt
theorem Box.other {w : World} {b : Nat} {cs : Array Value} {t : TypeId} (h : Box w b cs t) {a : Addr} (ha : b ≠ a.block) (v : Value) : Box (w.setCell a v) b cs t := (Below.heap_setCell w a v b ha).trans h
theorem Box.set {w : World} {b : Nat} {cs : Array Value} {t : TypeId} (h : Box w b cs t) (i : Nat) (v : Value) : Box (w.setCell ⟨b, i, none⟩ v) b (cs.setIfInBounds i v) t := by
  have hlt := h.lt
  unfold Box at h ⊢
  have h' : w.heap[b] = .cells cs t (0, 0) := by simpa [Array.getElem?_eq_getElem hlt] using h
  show (w.heap.modify b _)[b]? = _
  rw [Array.getElem?_eq_getElem (by simpa using hlt), Array.getElem_modify_self, h']
  rfl
/-- Of a box the walk is told three things: where it lies, what its cells hold, that they may be written. -/
theorem Box.facts {w : World} {b : Nat} {cs : Array Value} {t : TypeId} (h : Box w b cs t) :
    b < w.heap.size ∧ (∀ i, w.cell? ⟨b, i, none⟩ = cs[i]?) ∧ (∀ i, w.frozen? ⟨b, i, none⟩ = false) := ⟨h.lt, h.cell, h.free⟩

/-! A store of a whole struct into a box, as one step: laid as a rule that is tried ahead of the walk's own (which goes cell by cell). -/
/-- How many cells a block has that may be written. -/
def roomOf (w : World) (g : Nat) : Option Nat := match w.heap[g]? with | some (.cells c _ (0, 0)) => some c.size | _ => none
def cellsFor (P : Program) (t : TypeId) : Option Nat := (P.info? t).map (·.size)
theorem Box.room {w : World} {b : Nat} {cs : Array Value} {t : TypeId} (h : Box w b cs t) : roomOf w b = some cs.size := by
  unfold Box at h
  simp [roomOf, h]
theorem storeAt_row {P : Program} {w : World} {g : Nat} {ty : TypeId} {cells : Array Value} (hr : roomOf w g = some cells.size) (hi : cellsFor P ty = some cells.size) (h1 : cells.all (·.oneCell') = true) :
    (Instr.storeAt ty (.pointer (some ⟨g, 0, none⟩)) (.agg cells)).run P w = .ok () (w.setRow g cells) := by
  unfold roomOf at hr
  split at hr
  · rename_i c t hg
    simp only [Instr.storeAt, Instr.sureAddr, Sem.run_bind, Sem.run_pure, Result.andThen]
    exact run_storeVar_row w g t ty c cells hg hi (by simpa using hr) h1
  · cases hr
theorem Box.setRow {w : World} {b : Nat} {cs : Array Value} {t : TypeId} (h : Box w b cs t) (cs' : Array Value) : Box (w.setRow b cs') b cs' t := setRow_heap w b cs cs' t _ h
theorem Box.otherRow {w : World} {b : Nat} {cs : Array Value} {t : TypeId} (h : Box w b cs t) {g : Nat} (hg : b ≠ g) (cs' : Array Value) : Box (w.setRow g cs') b cs t := (setRow_other w g b cs' hg).trans h
theorem below_row {B g : Nat} {w0 w : World} (hb : Below B w0 w) (hBg : B ≤ g) (cs : Array Value) : Below B w0 (w.setRow g cs) := below_setRow hb hBg cs

end Go.Proofs.YtimkgaokcldgkaaGreatDoor
/- The order of numbers as Go's cmp tells it. No program here. -/
namespace Go.Proofs.YtimkgaokcldgkaaGreatDoor
def cmpI (x y : Int) : Int := if x < y then -1 else if y < x then 1 else 0
def orI (x y : Int) : Int := if x = 0 then y else x
end Go.Proofs.YtimkgaokcldgkaaGreatDoor
/- To name the world of a call or of what is left, by what holds of it. No program here. -/
namespace Go.Proofs.YtimkgaokcldgkaaGreatDoor
open Go.RowKit
theorem code_forget {P : Program} {c : Code} {Q : Exit → Act → World → Prop} {a : Act} {w : World} (S : World → Prop) (h : S w) (k : ∀ w', S w' → Code.wp P c Q a w') : Code.wp P c Q a w := k w h
end Go.Proofs.YtimkgaokcldgkaaGreatDoor
/- Package frame: the mathematics of records' bytes. No program here. -/
namespace Go.Proofs.YtimkgaokcldgkaaGreatDoor
open Go.RowKit

/-- Bytes. -/
def Byts (l : List Int) : Prop := ∀ c ∈ l, 0 ≤ c ∧ c < 256
theorem Byts.nil : Byts [] := fun _ h => by cases h
theorem Byts.cons {c : Int} {l : List Int} (h : Byts (c :: l)) : (0 ≤ c ∧ c < 256) ∧ Byts l := ⟨h c (by simp), fun x hx => h x (by simp [hx])⟩
theorem Byts.mk {c : Int} {l : List Int} (h : 0 ≤ c ∧ c < 256) (hl : Byts l) : Byts (c :: l) := by
  intro x hx
  rcases List.mem_cons.1 hx with rfl | hx
  · exact h
  · exact hl x hx
theorem Byts.append {a b : List Int} (ha : Byts a) (hb : Byts b) : Byts (a ++ b) := by
  intro x hx
  rcases List.mem_append.1 hx with h | h
  · exact ha x h
  · exact hb x h
theorem Byts.left {a b : List Int} (h : Byts (a ++ b)) : Byts a := fun x hx => h x (by simp [hx])
theorem Byts.right {a b : List Int} (h : Byts (a ++ b)) : Byts b := fun x hx => h x (by simp [hx])
theorem Byts.take {a : List Int} (h : Byts a) (n : Nat) : Byts (a.take n) := fun x hx => h x (List.mem_of_mem_take hx)
theorem Byts.drop {a : List Int} (h : Byts a) (n : Nat) : Byts (a.drop n) := fun x hx => h x (List.mem_of_mem_drop hx)

/-- A number's bytes, the highest first. -/
def bigI (n : Int) : Nat → List Int
  | 0 => []
  | k + 1 => n / 256 ^ k % 256 :: bigI n k
@[simp] theorem bigI_length (n : Int) : ∀ k, (bigI n k).length = k
  | 0 => rfl
  | k + 1 => by simp [bigI, bigI_length n k]
theorem bigI_byts (n : Int) : ∀ k, Byts (bigI n k)
  | 0 => Byts.nil
  | k + 1 => Byts.mk ⟨Int.emod_nonneg _ (by decide), Int.emod_lt_of_pos _ (by decide)⟩ (bigI_byts n k)
theorem bigI_get (n : Int) : ∀ (k i : Nat), i < k → (bigI n k)[i]? = some (n / 256 ^ (k - 1 - i) % 256)
  | 0, i, h => by omega
  | k + 1, 0, _ => by simp [bigI]
  | k + 1, i + 1, h => by
    rw [bigI, List.getElem?_cons_succ, bigI_get n k i (by omega)]
    congr 4
    omega
/-- The number that bytes are. -/
def valI (l : List Int) : Int := l.foldl (fun a c => a * 256 + c) 0
theorem fold_val (l : List Int) : ∀ a : Int, l.foldl (fun a c => a * 256 + c) a = a * 256 ^ l.length + valI l := by
  induction l with
  | nil => intro a; simp [valI]
  | cons c l ih =>
    intro a
    have h1 := ih (a * 256 + c)
    have h2 := ih (0 * 256 + c)
    unfold valI
    rw [List.foldl_cons, List.foldl_cons, h1, h2, List.length_cons, Int.pow_succ]
    rw [Int.add_mul, Int.zero_mul, Int.zero_add, Int.mul_assoc, Int.mul_comm 256]
    omega
theorem valI_cons (c : Int) (l : List Int) : valI (c :: l) = c * 256 ^ l.length + valI l := by
  have := fold_val l (0 * 256 + c)
  unfold valI
  rw [List.foldl_cons, this]
  simp [valI]
theorem valI_snoc (l : List Int) (c : Int) : valI (l ++ [c]) = valI l * 256 + c := by simp [valI, List.foldl_append]
theorem valI_lt : ∀ (l : List Int), Byts l → 0 ≤ valI l ∧ valI l < 256 ^ l.length
  | [], _ => by simp [valI]
  | c :: l, h => by
    obtain ⟨⟨h0, h1⟩, hl⟩ := h.cons
    obtain ⟨g0, g1⟩ := valI_lt l hl
    rw [valI_cons, List.length_cons, Int.pow_succ]
    have hp : (0 : Int) < 256 ^ l.length := Int.pow_pos (by decide)
    have h2 : 0 ≤ c * 256 ^ l.length := Int.mul_nonneg h0 (by omega)
    have h3 : (c + 1) * 256 ^ l.length ≤ 256 * 256 ^ l.length := Int.mul_le_mul_of_nonneg_right (by omega) (by omega)
    rw [Int.add_mul] at h3
    rw [Int.mul_comm _ 256]
    omega
theorem mod_step (n p : Int) (hp : 0 < p) : n / p % 256 * p + n % p = n % (p * 256) := by
  have h1 := Int.emod_nonneg n (show p ≠ 0 by omega)
  have h2 := Int.emod_lt_of_pos n hp
  have h3 := Int.mul_ediv_add_emod n p
  have h4 := Int.mul_ediv_add_emod (n / p) 256
  have h5 := Int.emod_nonneg (n / p) (show (256 : Int) ≠ 0 by decide)
  have h6 := Int.emod_lt_of_pos (n / p) (show (0 : Int) < 256 by decide)
  generalize n / p % 256 = k at *
  generalize n / p / 256 = m at *
  generalize n % p = r at *
  generalize n / p = q at *
  have h8 : 0 ≤ k * p := Int.mul_nonneg h5 (by omega)
  have h9 : (k + 1) * p ≤ 256 * p := Int.mul_le_mul_of_nonneg_right (by omega) (by omega)
  rw [Int.add_mul] at h9
  have h7 : n = (k * p + r) + p * 256 * m := by
    rw [← h3, ← h4, Int.mul_add, ← Int.mul_assoc, Int.mul_comm p k]
    omega
  rw [h7, Int.add_mul_emod_self_left, Int.emod_eq_of_lt (by omega) (by rw [Int.mul_comm p 256]; omega)]
theorem val_big (n : Int) : ∀ k, valI (bigI n k) = n % 256 ^ k
  | 0 => by simp [bigI, valI]
  | k + 1 => by
    rw [bigI, valI_cons, val_big n k, bigI_length, Int.pow_succ]
    exact mod_step n _ (Int.pow_pos (by decide))
theorem val_inj : ∀ (a b : List Int), Byts a → Byts b → a.length = b.length → valI a = valI b → a = b
  | [], [], _, _, _, _ => rfl
  | [], _ :: _, _, _, h, _ => by simp at h
  | _ :: _, [], _, _, h, _ => by simp at h
  | c :: a, d :: b, ha', hb', hl, hv => by
    obtain ⟨hc, ha⟩ := ha'.cons
    obtain ⟨hd, hb⟩ := hb'.cons
    clear ha' hb'
    replace hl : a.length = b.length := by simpa using hl
    rw [valI_cons, valI_cons, hl] at hv
    obtain ⟨a0, a1⟩ := valI_lt a ha
    obtain ⟨b0, b1⟩ := valI_lt b hb
    rw [hl] at a1
    have hp : (0 : Int) < 256 ^ b.length := Int.pow_pos (by decide)
    generalize (256 : Int) ^ b.length = p at *
    have hcd : c = d := by
      rcases Int.lt_trichotomy c d with h | h | h
      · have := Int.mul_le_mul_of_nonneg_right (show c + 1 ≤ d by omega) (show 0 ≤ p by omega)
        rw [Int.add_mul] at this
        omega
      · exact h
      · have := Int.mul_le_mul_of_nonneg_right (show d + 1 ≤ c by omega) (show 0 ≤ p by omega)
        rw [Int.add_mul] at this
        omega
    subst hcd
    rw [val_inj a b ha hb hl (by omega)]
theorem big_val (l : List Int) (h : Byts l) : bigI (valI l) l.length = l := by
  obtain ⟨h0, h1⟩ := valI_lt l h
  exact val_inj _ _ (bigI_byts _ _) h (bigI_length _ _) (by rw [val_big, Int.emod_eq_of_lt h0 h1])

/-! The checksum. -/
def polyC : BitVec 32 := 0xedb88320#32
def stepC (s : BitVec 32) : BitVec 32 := if s.getLsbD 0 then (s >>> 1) ^^^ polyC else s >>> 1
def stepsC : Nat → BitVec 32 → BitVec 32
  | 0, s => s
  | n + 1, s => stepsC n (stepC s)
def byteC (s : BitVec 32) (c : Int) : BitVec 32 := stepsC 8 (s ^^^ BitVec.ofInt 32 c)
def runC (s : BitVec 32) (l : List Int) : BitVec 32 := l.foldl byteC s
def sumC (l : List Int) : BitVec 32 := ~~~ (runC (~~~ 0#32) l)
theorem stepsC_add : ∀ (n m : Nat) (a : BitVec 32), stepsC (n + m) a = stepsC m (stepsC n a)
  | 0, m, a => by rw [Nat.zero_add]; rfl
  | n + 1, m, a => by rw [show n + 1 + m = (n + m) + 1 by omega, stepsC, stepsC, stepsC_add n m]
theorem runC_append (s : BitVec 32) (a b : List Int) : runC s (a ++ b) = runC (runC s a) b := by simp [runC, List.foldl_append]

/-! Strings and bytes. -/
def btL (s : ByteArray) : List Int := s.data.toList.map fun c => (c.toNat : Int)
def strL (l : List Int) : ByteArray := ⟨(l.map fun z => UInt8.ofNat z.toNat).toArray⟩
@[simp] theorem btL_length (s : ByteArray) : (btL s).length = s.size := by simp [btL]
@[simp] theorem strL_size (l : List Int) : (strL l).size = l.length := by simp [strL, ByteArray.size]
theorem btL_byts (s : ByteArray) : Byts (btL s) := by
  intro c hc
  obtain ⟨x, _, rfl⟩ := List.mem_map.1 hc
  have := x.toNat_lt
  simp at this ⊢
  omega
theorem btL_strL {l : List Int} (h : Byts l) : btL (strL l) = l := by
  unfold btL strL
  simp only [List.map_map]
  conv => rhs; rw [← List.map_id l]
  refine List.map_congr_left fun c hc => ?_
  obtain ⟨h0, h1⟩ := h c hc
  simp only [Function.comp_apply, UInt8.toNat_ofNat', id]
  omega
theorem strL_btL (s : ByteArray) : strL (btL s) = s := by
  unfold btL strL
  simp only [List.map_map]
  have : s.data.toList.map ((fun z : Int => UInt8.ofNat z.toNat) ∘ fun c : UInt8 => (c.toNat : Int)) = s.data.toList := by
    conv => rhs; rw [← List.map_id s.data.toList]
    refine List.map_congr_left fun c _ => ?_
    simp
  rw [this]
/-! Records. -/
structure Rc where
  kind : Int
  id : Int
  host : ByteArray
  path : ByteArray
  prio : Int
  till : Int
def soundR (r : Rc) : Prop := 1 ≤ r.kind ∧ r.kind ≤ 3 ∧ 0 ≤ r.id ∧ 0 ≤ r.till ∧ 0 ≤ r.prio ∧ r.prio ≤ 7 ∧ r.host.size ≤ 256 ∧ r.path.size ≤ 768
instance (r : Rc) : Decidable (soundR r) := by unfold soundR; infer_instance
def FitR (r : Rc) : Prop := r.id < 9223372036854775808 ∧ r.till < 9223372036854775808
def contR (r : Rc) : List Int := r.kind :: r.prio :: (bigI r.id 8 ++ (bigI r.till 8 ++ (bigI r.host.size 2 ++ (btL r.host ++ btL r.path))))
def recB (c : List Int) : List Int := bigI c.length 2 ++ (bigI (sumC c).toNat 4 ++ c)
def encR (r : Rc) : List Int := recB (contR r)
theorem contR_length (r : Rc) : (contR r).length = 20 + (r.host.size + r.path.size) := by simp [contR]; omega
theorem contR_byts {r : Rc} (h : soundR r) : Byts (contR r) := by
  obtain ⟨h1, h2, _, _, h3, h4, _, _⟩ := h
  exact Byts.mk ⟨by omega, by omega⟩ (Byts.mk ⟨h3, by omega⟩ ((bigI_byts _ _).append ((bigI_byts _ _).append ((bigI_byts _ _).append ((btL_byts _).append (btL_byts _))))))
theorem recB_length (c : List Int) : (recB c).length = 6 + c.length := by simp [recB]; omega
theorem recB_byts {c : List Int} (h : Byts c) : Byts (recB c) := (bigI_byts _ _).append ((bigI_byts _ _).append h)

/-- The first record of bytes, and its size. -/
def decR (b : List Int) : Option (Rc × Nat) :=
  if b.length < 6 then none
  else if b.length < 6 + (valI (b.take 2)).toNat ∨ 6 + (valI (b.take 2)).toNat < 26 then none
  else if valI ((b.drop 2).take 4) ≠ (sumC ((b.drop 6).take (valI (b.take 2)).toNat)).toNat then none
  else
    let c := (b.drop 6).take (valI (b.take 2)).toNat
    if (c.drop 20).length < (valI ((c.drop 18).take 2)).toNat then none
    else
      let h := (valI ((c.drop 18).take 2)).toNat
      let r : Rc := ⟨c.getD 0 0, wrap64 (valI ((c.drop 2).take 8)), strL ((c.drop 20).take h), strL ((c.drop 20).drop h), c.getD 1 0, wrap64 (valI ((c.drop 10).take 8))⟩
      if soundR r then some (r, 6 + (valI (b.take 2)).toNat) else none
theorem decR_parts {A S C I U H X Y rest : List Int} {k p : Int} (hA : A.length = 2) (hS : S.length = 4) (hI : I.length = 8) (hU : U.length = 8) (hH : H.length = 2)
    (hC : C = k :: p :: (I ++ (U ++ (H ++ (X ++ Y))))) (vA : valI A = C.length) (vS : valI S = (sumC C).toNat) (vH : valI H = X.length) :
    decR (A ++ (S ++ (C ++ rest))) = if soundR ⟨k, wrap64 (valI I), strL X, strL Y, p, wrap64 (valI U)⟩ then some (⟨k, wrap64 (valI I), strL X, strL Y, p, wrap64 (valI U)⟩, 6 + C.length) else none := by
  have h1 : (A ++ (S ++ (C ++ rest))).take 2 = A := List.take_left' hA
  have h2 : (A ++ (S ++ (C ++ rest))).drop 2 = S ++ (C ++ rest) := List.drop_left' hA
  have h3 : (A ++ (S ++ (C ++ rest))).drop 6 = C ++ rest := by rw [show 6 = 2 + 4 by rfl, ← List.drop_drop, h2, List.drop_left' hS]
  have h4 : (S ++ (C ++ rest)).take 4 = S := List.take_left' hS
  have h5 : (C ++ rest).take C.length = C := List.take_left' rfl
  have c2 : C.drop 2 = I ++ (U ++ (H ++ (X ++ Y))) := by rw [hC]; rfl
  have c10 : C.drop 10 = U ++ (H ++ (X ++ Y)) := by rw [show 10 = 2 + 8 by rfl, ← List.drop_drop, c2, List.drop_left' hI]
  have c18 : C.drop 18 = H ++ (X ++ Y) := by rw [show 18 = 10 + 8 by rfl, ← List.drop_drop, c10, List.drop_left' hU]
  have c20 : C.drop 20 = X ++ Y := by rw [show 20 = 18 + 2 by rfl, ← List.drop_drop, c18, List.drop_left' hH]
  have t2 : (I ++ (U ++ (H ++ (X ++ Y)))).take 8 = I := List.take_left' hI
  have t10 : (U ++ (H ++ (X ++ Y))).take 8 = U := List.take_left' hU
  have t18 : (H ++ (X ++ Y)).take 2 = H := List.take_left' hH
  have tx : (X ++ Y).take X.length = X := List.take_left' rfl
  have dx : (X ++ Y).drop X.length = Y := List.drop_left' rfl
  have g0 : C.getD 0 0 = k := by rw [hC]; rfl
  have g1 : C.getD 1 0 = p := by rw [hC]; rfl
  have hl : C.length = 20 + (X.length + Y.length) := by rw [hC]; simp; omega
  unfold decR
  rw [if_neg (by simp; omega)]
  simp only [h1, h2, h3, vA, Int.toNat_natCast, h4, h5, vS]
  rw [if_neg (by simp; omega), if_neg (by simp)]
  simp only [c20, c18, t18, vH, Int.toNat_natCast, c2, c10, t2, t10, tx, dx, g0, g1]
  rw [if_neg (by simp)]
theorem wrap64_id {n : Int} (h0 : 0 ≤ n) (h1 : n < 9223372036854775808) : wrap64 n = n := by unfold wrap64; omega
theorem wrap64_nat {n : Int} (h0 : 0 ≤ n) (h1 : n < 18446744073709551616) (h : 0 ≤ wrap64 n) : wrap64 n = n ∧ n < 9223372036854775808 := by unfold wrap64 at *; omega
theorem val_big8 {n : Int} (h0 : 0 ≤ n) (h1 : n < 9223372036854775808) : valI (bigI n 8) = n := by rw [val_big]; omega
theorem val_big2 {n : Int} (h0 : 0 ≤ n) (h1 : n < 65536) : valI (bigI n 2) = n := by rw [val_big]; omega
theorem val_big4 (n : BitVec 32) : valI (bigI n.toNat 4) = n.toNat := by
  have := n.isLt
  rw [val_big]
  omega
/-- What was encoded is decoded, whatever stands behind it. -/
theorem dec_enc {r : Rc} (h : soundR r) (hf : FitR r) (rest : List Int) : decR (encR r ++ rest) = some (r, (encR r).length) := by
  have hs := h
  obtain ⟨h1, h2, h3, h4, h5, h6, h7, h8⟩ := h
  have hl := contR_length r
  unfold encR
  rw [recB_length]
  unfold recB
  rw [List.append_assoc, List.append_assoc,
    decR_parts (rest := rest) (C := contR r) (k := r.kind) (p := r.prio) (X := btL r.host) (Y := btL r.path) (bigI_length _ 2) (bigI_length _ 4) (bigI_length r.id 8) (bigI_length r.till 8) (bigI_length r.host.size 2) rfl (val_big2 (by omega) (by omega)) (val_big4 _) (by rw [btL_length]; exact val_big2 (by omega) (by omega)),
    val_big8 h3 hf.1, val_big8 h4 hf.2, wrap64_id h3 hf.1, wrap64_id h4 hf.2, strL_btL, strL_btL, if_pos hs]
theorem enc_inv {b : List Int} (hb : Byts b) {r : Rc} {n : Nat} (h : decR b = some (r, n)) :
    soundR r ∧ FitR r ∧ n ≤ b.length ∧ 26 ≤ n ∧ n = (encR r).length ∧ b = encR r ++ b.drop n := by
  unfold decR at h
  split at h
  · cases h
  split at h
  · cases h
  split at h
  · cases h
  simp only at h
  split at h
  · cases h
  split at h
  rotate_left
  · cases h
  rename_i g1 g2 g3 g4 g5
  simp only [not_or, Nat.not_lt, List.length_drop] at g1 g2 g4
  rw [← List.length_drop] at g4
  have g3 : valI ((b.drop 2).take 4) = (sumC ((b.drop 6).take (valI (b.take 2)).toNat)).toNat := Decidable.not_not.1 g3
  injection h with h
  injection h with hr hn
  generalize hm : (valI (b.take 2)).toNat = m at *
  generalize hC : (b.drop 6).take m = C at *
  generalize hh : (valI ((C.drop 18).take 2)).toNat = hl at *
  have hbC : Byts C := hC ▸ (hb.drop 6).take m
  have lC : C.length = m := by rw [← hC]; simp; omega
  have vA := valI_lt (b.take 2) (hb.take 2)
  have vH := valI_lt ((C.drop 18).take 2) ((hbC.drop 18).take 2)
  have vI := valI_lt ((C.drop 2).take 8) ((hbC.drop 2).take 8)
  have vU := valI_lt ((C.drop 10).take 8) ((hbC.drop 10).take 8)
  rw [show ((C.drop 2).take 8).length = 8 by simp; omega] at vI
  rw [show ((C.drop 10).take 8).length = 8 by simp; omega] at vU
  have hs := g5
  rw [hr] at hs
  have eI : wrap64 (valI ((C.drop 2).take 8)) = r.id := by rw [← hr]
  have eU : wrap64 (valI ((C.drop 10).take 8)) = r.till := by rw [← hr]
  have eX : strL ((C.drop 20).take hl) = r.host := by rw [← hr]
  have eY : strL ((C.drop 20).drop hl) = r.path := by rw [← hr]
  have e0 : C.getD 0 0 = r.kind := by rw [← hr]
  have e1 : C.getD 1 0 = r.prio := by rw [← hr]
  obtain ⟨fI, fI2⟩ := wrap64_nat vI.1 vI.2 (by rw [eI]; exact hs.2.2.1)
  obtain ⟨fU, fU2⟩ := wrap64_nat vU.1 vU.2 (by rw [eU]; exact hs.2.2.2.1)
  have sX : btL r.host = (C.drop 20).take hl := by rw [← eX]; exact btL_strL ((hbC.drop 20).take hl)
  have sY : btL r.path = (C.drop 20).drop hl := by rw [← eY]; exact btL_strL ((hbC.drop 20).drop hl)
  have zX : r.host.size = hl := by rw [List.length_drop] at g4; rw [← btL_length, sX]; simp; omega
  have hcont : contR r = C := by
    have b1 : bigI r.id 8 = (C.drop 2).take 8 := by
      rw [← eI, fI]
      have := big_val ((C.drop 2).take 8) ((hbC.drop 2).take 8)
      rwa [show ((C.drop 2).take 8).length = 8 by simp; omega] at this
    have b2 : bigI r.till 8 = (C.drop 10).take 8 := by
      rw [← eU, fU]
      have := big_val ((C.drop 10).take 8) ((hbC.drop 10).take 8)
      rwa [show ((C.drop 10).take 8).length = 8 by simp; omega] at this
    have b3 : bigI r.host.size 2 = (C.drop 18).take 2 := by
      have := big_val ((C.drop 18).take 2) ((hbC.drop 18).take 2)
      rw [show ((C.drop 18).take 2).length = 2 by simp; omega] at this
      rw [zX, ← hh, Int.toNat_of_nonneg vH.1, this]
    unfold contR
    rw [b1, b2, b3, sX, sY, List.take_append_drop, ← e0, ← e1]
    have d18 : (C.drop 18).take 2 ++ C.drop 20 = C.drop 18 := by rw [show C.drop 20 = (C.drop 18).drop 2 by rw [List.drop_drop], List.take_append_drop]
    have d10 : (C.drop 10).take 8 ++ C.drop 18 = C.drop 10 := by rw [show C.drop 18 = (C.drop 10).drop 8 by rw [List.drop_drop], List.take_append_drop]
    have d2 : (C.drop 2).take 8 ++ C.drop 10 = C.drop 2 := by rw [show C.drop 10 = (C.drop 2).drop 8 by rw [List.drop_drop], List.take_append_drop]
    rw [d18, d10, d2]
    match C, lC with
    | x :: y :: C', _ => rfl
    | [], h => simp at h; omega
    | [x], h => simp at h; omega
  have hlen : n = (encR r).length := by
    unfold encR
    rw [recB_length, hcont, lC, ← hn]
  refine ⟨hs, ⟨by rw [← eI, fI]; exact fI2, by rw [← eU, fU]; exact fU2⟩, by omega, by omega, hlen, ?_⟩
  unfold encR recB
  rw [hcont]
  have b1 : bigI C.length 2 = b.take 2 := by
    have := big_val (b.take 2) (hb.take 2)
    rw [show (b.take 2).length = 2 by simp; omega] at this
    rw [lC, ← hm, Int.toNat_of_nonneg vA.1, this]
  have b2 : bigI (sumC C).toNat 4 = (b.drop 2).take 4 := by
    have := big_val ((b.drop 2).take 4) ((hb.drop 2).take 4)
    rw [show ((b.drop 2).take 4).length = 4 by simp; omega, g3] at this
    exact this
  rw [b1, b2, ← hn, ← hC, List.append_assoc, List.append_assoc]
  rw [show b.drop (6 + m) = (b.drop 6).drop m by rw [List.drop_drop], List.take_append_drop, show b.drop 6 = (b.drop 2).drop 4 by rw [List.drop_drop], List.take_append_drop, List.take_append_drop]
theorem encR_ge (r : Rc) : 26 ≤ (encR r).length := by unfold encR; rw [recB_length, contR_length]; omega
/-! All records that bytes begin with. -/
def flatR (rs : List Rc) : List Int := rs.flatMap encR
def Scanned (b : List Int) (rs : List Rc) (n : Nat) : Prop := (∀ r ∈ rs, soundR r ∧ FitR r) ∧ n = (flatR rs).length ∧ b = flatR rs ++ b.drop n ∧ decR (b.drop n) = none
theorem Scanned.one : ∀ {rs rs' : List Rc} {b : List Int} {n n' : Nat}, Scanned b rs n → Scanned b rs' n' → rs = rs' ∧ n = n'
  | [], [], b, n, n', h, h' => ⟨rfl, by rw [h.2.1, h'.2.1]⟩
  | [], r' :: rs', b, n, n', h, h' => by
    exfalso
    obtain ⟨_, hn, _, hd⟩ := h
    obtain ⟨hr, _, hb, _⟩ := h'
    rw [hn] at hd
    simp only [flatR, List.flatMap_nil, List.length_nil, List.drop_zero] at hd
    obtain ⟨h1, h2⟩ := hr r' (by simp)
    rw [hb, flatR, List.flatMap_cons, List.append_assoc, dec_enc h1 h2] at hd
    cases hd
  | r :: rs, [], b, n, n', h', h => by
    exfalso
    obtain ⟨_, hn, _, hd⟩ := h
    obtain ⟨hr, _, hb, _⟩ := h'
    rw [hn] at hd
    simp only [flatR, List.flatMap_nil, List.length_nil, List.drop_zero] at hd
    obtain ⟨h1, h2⟩ := hr r (by simp)
    rw [hb, flatR, List.flatMap_cons, List.append_assoc, dec_enc h1 h2] at hd
    cases hd
  | r :: rs, r' :: rs', b, n, n', h, h' => by
    obtain ⟨hr, hn, hb, hd⟩ := h
    obtain ⟨hr', hn', hb', hd'⟩ := h'
    obtain ⟨h1, h2⟩ := hr r (by simp)
    obtain ⟨h1', h2'⟩ := hr' r' (by simp)
    have e1 : decR b = some (r, (encR r).length) := by rw [hb, flatR, List.flatMap_cons, List.append_assoc, dec_enc h1 h2]
    have e2 : decR b = some (r', (encR r').length) := by rw [hb', flatR, List.flatMap_cons, List.append_assoc, dec_enc h1' h2']
    rw [e1] at e2
    injection e2 with e2
    injection e2 with e2 _
    subst e2
    have f1 : n = (encR r).length + (flatR rs).length := by rw [hn]; simp [flatR]
    have f2 : n' = (encR r).length + (flatR rs').length := by rw [hn']; simp [flatR]
    have d1 : b.drop n = (b.drop (encR r).length).drop (flatR rs).length := by rw [List.drop_drop, f1]
    have d2 : b.drop n' = (b.drop (encR r).length).drop (flatR rs').length := by rw [List.drop_drop, f2]
    have k1 : b.drop (encR r).length = flatR rs ++ b.drop n := by
      conv => lhs; rw [hb, flatR, List.flatMap_cons, List.append_assoc]
      rw [List.drop_left' rfl]
      rfl
    have k2 : b.drop (encR r).length = flatR rs' ++ b.drop n' := by
      conv => lhs; rw [hb', flatR, List.flatMap_cons, List.append_assoc]
      rw [List.drop_left' rfl]
      rfl
    rw [d1] at hd k1
    rw [d2] at hd' k2
    obtain ⟨e3, e4⟩ := Scanned.one (rs := rs) (rs' := rs') (b := b.drop (encR r).length) ⟨fun x hx => hr x (by simp [hx]), rfl, k1, hd⟩ ⟨fun x hx => hr' x (by simp [hx]), rfl, k2, hd'⟩
    exact ⟨by rw [e3], by rw [f1, f2, e3]⟩
end Go.Proofs.YtimkgaokcldgkaaGreatDoor
/- The simulated disk, told by lists: segments by number, rising; pieces not yet synced. No program here. -/
namespace Go.Proofs.YtimkgaokcldgkaaGreatDoor
open Go
set_option linter.unusedVariables false
set_option linter.unusedSimpArgs false

abbrev Sgs := List (Int × List Int)
abbrev Pcs := List (Int × Nat)
def gS : Sgs → Int → Option (List Int)
  | [], _ => none
  | (m, c) :: t, n => if m = n then some c else gS t n
def pS : Sgs → Int → List Int → Sgs
  | [], n, b => [(n, b)]
  | (m, c) :: t, n, b => if n < m then (n, b) :: (m, c) :: t else if m = n then (n, b) :: t else (m, c) :: pS t n b
def SS (S : Sgs) : Prop := S.Pairwise fun p q => p.1 < q.1
def gD (S : Sgs) (n : Int) : List Int := (gS S n).getD []
theorem gS_put (S : Sgs) (n : Int) (b : List Int) (k : Int) : gS (pS S n b) k = if k = n then some b else gS S k := by
  induction S with
  | nil =>
    unfold pS gS gS
    by_cases h : k = n
    · rw [if_pos h, if_pos h.symm]
    · rw [if_neg h, if_neg (fun e => h e.symm)]
  | cons x t ih =>
    obtain ⟨m, c⟩ := x
    unfold pS
    by_cases h1 : n < m
    · rw [if_pos h1]
      by_cases h : k = n
      · rw [if_pos h]; unfold gS; rw [if_pos h.symm]
      · rw [if_neg h]; rw [gS, if_neg (fun e => h e.symm)]
    · rw [if_neg h1]
      by_cases h2 : m = n
      · rw [if_pos h2]
        by_cases h : k = n
        · rw [if_pos h]; unfold gS; rw [if_pos h.symm]
        · rw [if_neg h, gS, gS, if_neg (fun e => h e.symm), if_neg (fun e => h (e.symm.trans h2))]
      · rw [if_neg h2, gS, ih, gS]
        by_cases h3 : m = k
        · rw [if_pos h3, if_pos h3, if_neg (fun e => h2 (h3.trans e))]
        · rw [if_neg h3, if_neg h3]
theorem pS_mem {S : Sgs} {n : Int} {b : List Int} {p : Int × List Int} (h : p ∈ pS S n b) : p = (n, b) ∨ p ∈ S := by
  induction S with
  | nil => exact Or.inl (by simpa [pS] using h)
  | cons x t ih =>
    obtain ⟨m, c⟩ := x
    unfold pS at h
    split at h
    · rcases List.mem_cons.1 h with h | h
      · exact Or.inl h
      · exact Or.inr h
    · split at h
      · rcases List.mem_cons.1 h with h | h
        · exact Or.inl h
        · exact Or.inr (List.mem_cons_of_mem _ h)
      · rcases List.mem_cons.1 h with h | h
        · exact Or.inr (h ▸ List.mem_cons_self)
        · rcases ih h with h | h
          · exact Or.inl h
          · exact Or.inr (List.mem_cons_of_mem _ h)
theorem SS_put {S : Sgs} (h : SS S) (n : Int) (b : List Int) : SS (pS S n b) := by
  unfold SS at *
  induction S with
  | nil => exact List.pairwise_singleton _ _
  | cons x t ih =>
    obtain ⟨m, c⟩ := x
    obtain ⟨h1, h2⟩ := List.pairwise_cons.1 h
    unfold pS
    split
    · rename_i hn
      refine List.pairwise_cons.2 ⟨fun q hq => ?_, h⟩
      rcases List.mem_cons.1 hq with hq | hq
      · rw [hq]; exact hn
      · have := h1 q hq
        exact Int.lt_trans hn this
    · split
      · rename_i hn hm
        subst hm
        exact List.pairwise_cons.2 ⟨fun q hq => h1 q hq, h2⟩
      · rename_i hn hm
        refine List.pairwise_cons.2 ⟨fun q hq => ?_, ih h2⟩
        rcases pS_mem hq with hq | hq
        · rw [hq]
          show m < n
          omega
        · exact h1 q hq
theorem gS_low {S : Sgs} {n : Int} (h : ∀ p ∈ S, n < p.1) : gS S n = none := by
  induction S with
  | nil => rfl
  | cons x t ih =>
    obtain ⟨m, c⟩ := x
    have h1 : n < m := h (m, c) List.mem_cons_self
    rw [gS, if_neg (by omega), ih (fun p hp => h p (List.mem_cons_of_mem _ hp))]
theorem len_put {S : Sgs} (h : SS S) (n : Int) (b : List Int) : (pS S n b).length = if (gS S n).isSome then S.length else S.length + 1 := by
  unfold SS at h
  induction S with
  | nil => rfl
  | cons x t ih =>
    obtain ⟨m, c⟩ := x
    obtain ⟨h1, h2⟩ := List.pairwise_cons.1 h
    unfold pS
    split
    · rename_i hn
      have : gS ((m, c) :: t) n = none := gS_low fun p hp => by
        rcases List.mem_cons.1 hp with hp | hp
        · rw [hp]; exact hn
        · exact Int.lt_trans hn (h1 p hp)
      rw [this]
      rfl
    · split
      · rename_i hn hm
        rw [gS, if_pos hm]
        rfl
      · rename_i hn hm
        rw [gS, if_neg hm, List.length_cons, ih h2, List.length_cons]
        split <;> rfl
theorem gS_keys {S : Sgs} {n : Int} : n ∈ S.map Prod.fst ↔ (gS S n).isSome = true := by
  induction S with
  | nil => simp [gS]
  | cons x t ih =>
    obtain ⟨m, c⟩ := x
    rw [gS, List.map_cons, List.mem_cons, ih]
    by_cases h : m = n
    · simp [h]
    · rw [if_neg h]
      constructor
      · rintro (h' | h')
        · exact absurd h'.symm h
        · exact h'
      · exact Or.inr
theorem keys_nodup {S : Sgs} (h : SS S) : (S.map Prod.fst).Nodup := by
  unfold List.Nodup
  rw [List.pairwise_map]
  exact List.Pairwise.imp (fun h => by omega) h
theorem keys_sorted {S : Sgs} (h : SS S) : (S.map Prod.fst).Pairwise fun x y => decide (x ≤ y) = true := by
  rw [List.pairwise_map]
  exact List.Pairwise.imp (fun h => decide_eq_true (by omega)) h
/-- How many bytes of a segment are not yet synced. -/
def loose : Pcs → Int → Nat
  | [], _ => 0
  | (g, z) :: t, n => (if g = n then z else 0) + loose t n
theorem loose_app (u : Pcs) (g : Int) (z : Nat) (n : Int) : loose (u ++ [(g, z)]) n = loose u n + if g = n then z else 0 := by
  induction u with
  | nil => simp [loose]
  | cons x t ih =>
    obtain ⟨m, y⟩ := x
    rw [List.cons_append, loose, ih, loose]
    omega
def UN (S : Sgs) (u : Pcs) : Prop := (∀ p ∈ u, (gS S p.1).isSome = true) ∧ ∀ n, loose u n ≤ (gD S n).length
theorem UN.nil (S : Sgs) : UN S [] := ⟨fun p hp => (by cases hp), fun n => Nat.zero_le _⟩
theorem gD_put (S : Sgs) (n : Int) (b : List Int) (k : Int) : gD (pS S n b) k = if k = n then b else gD S k := by
  unfold gD
  rw [gS_put]
  split <;> rfl
theorem UN.add {S : Sgs} {u : Pcs} (h : UN S u) (n : Int) (b : List Int) : UN (pS S n (gD S n ++ b)) (u ++ [(n, b.length)]) := by
  refine ⟨fun p hp => ?_, fun k => ?_⟩
  · rw [gS_put]
    split
    · rfl
    · rename_i hne
      rcases List.mem_append.1 hp with hp | hp
      · exact h.1 p hp
      · rw [List.mem_singleton] at hp
        rw [hp] at hne
        exact absurd rfl hne
  · rw [loose_app, gD_put]
    have := h.2 k
    by_cases e : k = n
    · subst e
      rw [if_pos rfl, if_pos rfl, List.length_append]
      omega
    · rw [if_neg e, if_neg (fun e' => e e'.symm)]
      exact this
/-- What of a piece is kept. -/
def keptN (k : Int) (z : Nat) : Nat := (max 0 (min k (z : Int))).toNat
theorem keptN_le (k : Int) (z : Nat) : keptN k z ≤ z := by unfold keptN; omega
def cut1 (k : Int) (S : Sgs) (p : Int × Nat) : Sgs := pS S p.1 ((gD S p.1).take ((gD S p.1).length - (p.2 - keptN k p.2)))
def crash : Int → Sgs → Pcs → Sgs
  | _, S, [] => S
  | k, S, p :: t => crash (k - keptN k p.2) (cut1 k S p) t
theorem UN.cut {k : Int} {S : Sgs} {p : Int × Nat} {t : Pcs} (h : UN S (p :: t)) : UN (cut1 k S p) t := by
  obtain ⟨g, z⟩ := p
  refine ⟨fun q hq => ?_, fun n => ?_⟩
  · unfold cut1
    rw [gS_put]
    split
    · rfl
    · exact h.1 q (List.mem_cons_of_mem _ hq)
  · have h1 := h.2 n
    have h2 := keptN_le k z
    rw [loose] at h1
    unfold cut1
    rw [gD_put]
    by_cases e : n = g
    · subst e
      rw [if_pos rfl] at h1
      rw [if_pos rfl, List.length_take]
      dsimp only
      omega
    · rw [if_neg (fun e' => e e'.symm)] at h1
      rw [if_neg e]
      omega
theorem UN.head {S : Sgs} {g : Int} {z : Nat} {t : Pcs} (h : UN S ((g, z) :: t)) : z ≤ (gD S g).length := by
  have := h.2 g
  rw [loose, if_pos rfl] at this
  omega
theorem len_cut {k : Int} {S : Sgs} {p : Int × Nat} (h : SS S) (hs : (gS S p.1).isSome = true) : (cut1 k S p).length = S.length := by
  unfold cut1
  rw [len_put h, if_pos hs]
end Go.Proofs.YtimkgaokcldgkaaGreatDoor
/- Package queue: the mathematics of requests in order. No program here. -/
namespace Go.Proofs.YtimkgaokcldgkaaGreatDoor
open Go
set_option linter.unusedVariables false
set_option linter.unusedSimpArgs false

structure Rq where
  id : Int
  host : ByteArray
  path : ByteArray
  prio : Int
  til : Int
def rqL (r : Rq) : List Value := [.int .i64 r.id, .string r.host, .string r.path, .int .i64 r.prio, .int .i64 r.til]
def rqC (rs : List Rq) : List Value := rs.flatMap rqL
theorem rqL_len (r : Rq) : (rqL r).length = 5 := rfl
theorem rqC_nil : rqC [] = [] := rfl
theorem rqC_cons (r : Rq) (rs : List Rq) : rqC (r :: rs) = rqL r ++ rqC rs := by simp [rqC]
theorem rqC_app (a b : List Rq) : rqC (a ++ b) = rqC a ++ rqC b := by unfold rqC; rw [List.flatMap_append]
theorem rqC_len (rs : List Rq) : (rqC rs).length = rs.length * 5 := by
  induction rs with
  | nil => rfl
  | cons x t ih => rw [rqC_cons, List.length_append, ih, rqL_len, List.length_cons]; omega
theorem rqC_take (rs : List Rq) (k : Nat) : rqC (rs.take k) = (rqC rs).take (k * 5) := by
  induction rs generalizing k with
  | nil => simp [rqC]
  | cons x t ih =>
    cases k with
    | zero => simp [rqC]
    | succ k =>
      rw [List.take_succ_cons, rqC_cons, rqC_cons, ih, show (k + 1) * 5 = (rqL x).length + k * 5 by rw [rqL_len]; omega, List.take_length_add_append]
theorem rqC_drop (rs : List Rq) (k : Nat) : rqC (rs.drop k) = (rqC rs).drop (k * 5) := by
  induction rs generalizing k with
  | nil => simp [rqC]
  | cons x t ih =>
    cases k with
    | zero => simp
    | succ k =>
      rw [List.drop_succ_cons, rqC_cons, ih, show (k + 1) * 5 = (rqL x).length + k * 5 by rw [rqL_len]; omega, List.drop_length_add_append]
theorem rqC_get {rs : List Rq} {i : Nat} {x : Rq} (h : rs[i]? = some x) (j : Nat) (hj : j < 5) : (rqC rs)[i * 5 + j]? = (rqL x)[j]? := by
  induction rs generalizing i with
  | nil => simp at h
  | cons y t ih =>
    rw [rqC_cons]
    cases i with
    | zero =>
      simp at h
      subst h
      rw [Nat.zero_mul, Nat.zero_add, List.getElem?_append_left (by rw [rqL_len]; exact hj)]
    | succ i =>
      rw [List.getElem?_append_right (by rw [rqL_len]; omega), rqL_len, show (i + 1) * 5 + j - 5 = i * 5 + j by omega]
      exact ih (by simpa using h)
theorem rqL_one (r : Rq) : ∀ v ∈ rqL r, v.oneCell' = true := by
  intro v hv
  simp [rqL] at hv
  rcases hv with rfl | rfl | rfl | rfl | rfl <;> rfl
theorem rqC_one (rs : List Rq) : ∀ v ∈ rqC rs, v.oneCell' = true := by
  intro v hv
  unfold rqC at hv
  obtain ⟨z, _, hz⟩ := List.mem_flatMap.1 hv
  exact rqL_one z v hz
/-- The order. -/
def Bef (a b : Rq) : Prop := a.prio < b.prio ∨ (a.prio = b.prio ∧ a.id < b.id)
instance (a b : Rq) : Decidable (Bef a b) := by unfold Bef; exact inferInstance
def befB (a b : Rq) : Bool := decide (Bef a b)
def ordI (a b : Rq) : Int := if cmpI a.prio b.prio = 0 then cmpI a.id b.id else cmpI a.prio b.prio
theorem ordI_lt (a b : Rq) : ordI a b < 0 ↔ Bef a b := by
  unfold ordI cmpI Bef
  repeat' split
  all_goals omega
theorem Bef.trans {a b c : Rq} (h : Bef a b) (k : Bef b c) : Bef a c := by
  unfold Bef at *
  omega
theorem Bef.other {a b : Rq} (h : ¬ Bef a b) (hid : a.id ≠ b.id) : Bef b a := by
  unfold Bef at *
  omega
def Srt (rs : List Rq) : Prop := rs.Pairwise Bef
/-- Where a request stands. -/
def posQ (rs : List Rq) (r : Rq) : Nat := (rs.takeWhile fun x => befB x r).length
def insQ (rs : List Rq) (r : Rq) : List Rq := rs.take (posQ rs r) ++ r :: rs.drop (posQ rs r)
theorem posQ_le (rs : List Rq) (r : Rq) : posQ rs r ≤ rs.length := (List.takeWhile_sublist _).length_le
theorem posQ_cons (x : Rq) (t : List Rq) (r : Rq) : posQ (x :: t) r = if befB x r = true then posQ t r + 1 else 0 := by
  unfold posQ
  rw [List.takeWhile_cons]
  cases befB x r <;> simp
theorem posQ_of {rs : List Rq} {r : Rq} {k : Nat} (hk : k ≤ rs.length) (h1 : ∀ j x, j < k → rs[j]? = some x → Bef x r) (h2 : ∀ x, rs[k]? = some x → ¬ Bef x r) : posQ rs r = k := by
  induction rs generalizing k with
  | nil => simp at hk; subst hk; rfl
  | cons y t ih =>
    rw [posQ_cons]
    cases k with
    | zero =>
      have := h2 y rfl
      rw [if_neg]
      unfold befB
      simpa using this
    | succ k =>
      have := h1 0 y (by omega) rfl
      rw [if_pos (show befB y r = true from decide_eq_true this), ih (k := k) (by simpa using hk) (fun j x hj hx => h1 (j + 1) x (by omega) (by simpa using hx)) (fun x hx => h2 x (by simpa using hx))]
theorem srt_get {rs : List Rq} (h : Srt rs) {i j : Nat} {x y : Rq} (hij : i < j) (hx : rs[i]? = some x) (hy : rs[j]? = some y) : Bef x y := by
  obtain ⟨h1, e1⟩ := List.getElem?_eq_some_iff.1 hx
  obtain ⟨h2, e2⟩ := List.getElem?_eq_some_iff.1 hy
  have := List.pairwise_iff_getElem.1 h i j h1 h2 hij
  rw [e1, e2] at this
  exact this
theorem srt_mono {rs : List Rq} (h : Srt rs) {i j : Nat} {x y r : Rq} (hij : i ≤ j) (hx : rs[i]? = some x) (hy : rs[j]? = some y) (hb : Bef y r) : Bef x r := by
  rcases Nat.lt_or_eq_of_le hij with hlt | rfl
  · exact (srt_get h hlt hx hy).trans hb
  · rw [hx] at hy
    injection hy with e
    rw [e]
    exact hb
theorem posQ_lt {rs : List Rq} {r : Rq} : ∀ {j : Nat} {x : Rq}, j < posQ rs r → rs[j]? = some x → Bef x r := by
  induction rs with
  | nil => intro j x hj hx; simp at hx
  | cons y t ih =>
    intro j x hj hx
    rw [posQ_cons] at hj
    split at hj
    · rename_i hb
      cases j with
      | zero =>
        simp at hx
        subst hx
        exact of_decide_eq_true hb
      | succ j => exact ih (j := j) (by omega) (by simpa using hx)
    · omega
theorem posQ_at {rs : List Rq} {r x : Rq} (hx : rs[posQ rs r]? = some x) : ¬ Bef x r := by
  induction rs with
  | nil => simp at hx
  | cons y t ih =>
    rw [posQ_cons] at hx
    split at hx
    · exact ih (by simpa using hx)
    · rename_i hb
      simp at hx
      subst hx
      unfold befB at hb
      simpa using hb
theorem srt_ins {rs : List Rq} {r : Rq} (h : Srt rs) (hid : ∀ x ∈ rs, x.id ≠ r.id) : Srt (insQ rs r) := by
  unfold insQ Srt
  rw [List.pairwise_append]
  refine ⟨h.take, List.pairwise_cons.2 ⟨fun y hy => ?_, h.drop⟩, fun x hx y hy => ?_⟩
  · obtain ⟨j, hj⟩ := List.getElem?_of_mem hy
    rw [List.getElem?_drop] at hj
    have hn : ¬ Bef y r := fun hb => by
      obtain ⟨z, hz⟩ : ∃ z, rs[posQ rs r]? = some z := by
        have := (List.getElem?_eq_some_iff.1 hj).1
        exact ⟨_, List.getElem?_eq_getElem (by omega)⟩
      exact posQ_at hz (srt_mono h (Nat.le_add_right _ j) hz hj hb)
    exact Bef.other hn (hid y (List.mem_of_getElem? hj))
  · obtain ⟨i, hi⟩ := List.getElem?_of_mem hx
    rw [List.getElem?_take] at hi
    split at hi
    · rename_i hlt
      rcases List.mem_cons.1 hy with rfl | hy
      · exact posQ_lt hlt hi
      · obtain ⟨j, hj⟩ := List.getElem?_of_mem hy
        rw [List.getElem?_drop] at hj
        exact srt_get h (by omega) hi hj
    · cases hi
theorem insQ_len (rs : List Rq) (r : Rq) : (insQ rs r).length = rs.length + 1 := by
  have := posQ_le rs r
  unfold insQ
  rw [List.length_append, List.length_cons, List.length_take, List.length_drop]
  omega
theorem insQ_mem {rs : List Rq} {r x : Rq} : x ∈ insQ rs r ↔ x = r ∨ x ∈ rs := by
  unfold insQ
  rw [List.mem_append, List.mem_cons]
  constructor
  · rintro (h | h | h)
    · exact Or.inr (List.mem_of_mem_take h)
    · exact Or.inl h
    · exact Or.inr (List.mem_of_mem_drop h)
  · rintro (h | h)
    · exact Or.inr (Or.inl h)
    · rw [← List.take_append_drop (posQ rs r) rs] at h
      rcases List.mem_append.1 h with h | h
      · exact Or.inl h
      · exact Or.inr (Or.inr h)
theorem srt_filter {rs : List Rq} (h : Srt rs) (p : Rq → Bool) : Srt (rs.filter p) := List.Pairwise.filter p h
end Go.Proofs.YtimkgaokcldgkaaGreatDoor
/- A map whose elements read as themselves, told by a list of keys and elements. No program here but its types. -/
namespace Go.Proofs.YtimkgaokcldgkaaGreatDoor
open Go Go.RowKit Go.Maps
set_option linter.unusedVariables false
set_option linter.unusedSimpArgs false
set_option maxRecDepth 10000

section
variable {κ α : Type} [DecidableEq κ]
/-- What lies at a key. -/
def gA : List (κ × α) → κ → Option α
  | [], _ => none
  | (m, c) :: t, n => if m = n then some c else gA t n
/-- An element at a key: in its place, or last. -/
def pA : List (κ × α) → κ → α → List (κ × α)
  | [], n, b => [(n, b)]
  | (m, c) :: t, n, b => if m = n then (n, b) :: t else (m, c) :: pA t n b
def dA (S : List (κ × α)) (n : κ) : List (κ × α) := S.filter fun p => decide (p.1 ≠ n)
theorem gA_put (S : List (κ × α)) (n : κ) (b : α) (k : κ) : gA (pA S n b) k = if k = n then some b else gA S k := by
  induction S with
  | nil =>
    unfold pA gA gA
    by_cases h : k = n
    · rw [if_pos h, if_pos h.symm]
    · rw [if_neg h, if_neg (fun e => h e.symm)]
  | cons x t ih =>
    obtain ⟨m, c⟩ := x
    unfold pA
    by_cases h2 : m = n
    · rw [if_pos h2]
      by_cases h : k = n
      · rw [if_pos h]; unfold gA; rw [if_pos h.symm]
      · rw [if_neg h, gA, gA, if_neg (fun e => h e.symm), if_neg (fun e => h (e.symm.trans h2))]
    · rw [if_neg h2, gA, ih, gA]
      by_cases h3 : m = k
      · rw [if_pos h3, if_pos h3, if_neg (fun e => h2 (h3.trans e))]
      · rw [if_neg h3, if_neg h3]
theorem gA_del (S : List (κ × α)) (n k : κ) : gA (dA S n) k = if k = n then none else gA S k := by
  unfold dA
  induction S with
  | nil => unfold gA; simp [gA]
  | cons x t ih =>
    obtain ⟨m, c⟩ := x
    by_cases h2 : m = n
    · rw [List.filter_cons_of_neg (by simp [h2]), ih, gA]
      by_cases h : k = n
      · rw [if_pos h, if_pos h]
      · rw [if_neg h, if_neg h, if_neg (fun e => h (e.symm.trans h2))]
    · rw [List.filter_cons_of_pos (by simp [h2]), gA, ih, gA]
      by_cases h3 : m = k
      · rw [if_pos h3, if_pos h3, if_neg (fun e => h2 (h3.trans e))]
      · rw [if_neg h3, if_neg h3]
theorem gA_keys {S : List (κ × α)} {n : κ} : n ∈ S.map Prod.fst ↔ (gA S n).isSome = true := by
  induction S with
  | nil => simp [gA]
  | cons x t ih =>
    obtain ⟨m, c⟩ := x
    rw [gA, List.map_cons, List.mem_cons, ih]
    by_cases h : m = n
    · simp [h]
    · rw [if_neg h]
      constructor
      · rintro (h' | h')
        · exact absurd h'.symm h
        · exact h'
      · exact Or.inr
theorem pA_keys (S : List (κ × α)) (n : κ) (b : α) (k : κ) : k ∈ (pA S n b).map Prod.fst ↔ k = n ∨ k ∈ S.map Prod.fst := by
  rw [gA_keys, gA_put, gA_keys]
  by_cases h : k = n
  · simp [h]
  · simp [h]
theorem nd_put {S : List (κ × α)} (h : (S.map Prod.fst).Nodup) (n : κ) (b : α) : ((pA S n b).map Prod.fst).Nodup := by
  induction S with
  | nil => simp [pA]
  | cons x t ih =>
    obtain ⟨m, c⟩ := x
    rw [List.map_cons, List.nodup_cons] at h
    unfold pA
    by_cases h2 : m = n
    · rw [if_pos h2, List.map_cons, List.nodup_cons]
      exact ⟨h2 ▸ h.1, h.2⟩
    · rw [if_neg h2, List.map_cons, List.nodup_cons]
      refine ⟨fun hm => ?_, ih h.2⟩
      rcases (pA_keys t n b m).1 hm with e | e
      · exact h2 e
      · exact h.1 e
theorem nd_del {S : List (κ × α)} (h : (S.map Prod.fst).Nodup) (n : κ) : ((dA S n).map Prod.fst).Nodup :=
  List.Sublist.nodup (List.Sublist.map _ List.filter_sublist) h
theorem len_pA (S : List (κ × α)) (n : κ) (b : α) : (pA S n b).length = if (gA S n).isSome then S.length else S.length + 1 := by
  induction S with
  | nil => rfl
  | cons x t ih =>
    obtain ⟨m, c⟩ := x
    unfold pA
    rw [gA]
    by_cases h2 : m = n
    · rw [if_pos h2, if_pos h2]; rfl
    · rw [if_neg h2, if_neg h2, List.length_cons, ih, List.length_cons]
      split <;> rfl
theorem len_dA (S : List (κ × α)) (n : κ) : (dA S n).length ≤ S.length := List.length_filter_le _ _
end
/-- An element reads as itself. -/
def RHm : Value → Option (DataW Value × List MemPlace) := fun v => some (.held v, [])
/-- Keys as values, and the type of a map with such keys. -/
structure MTy (P : Program) (mt kt et : TypeId) {κ : Type} (lit : κ → Lit) (kv : κ → Value) (ok : κ → Prop) (z : Value) : Prop where
  und : P.underlying mt = some (.map kt et)
  key : Keyed P kt
  inj : ∀ a b, lit a = lit b → a = b
  isl : ∀ k, ok k → WideAt.IsKeyLit (lit k)
  kof : ∀ k, ok k → keyOf P kt (kv k) = some (lit k)
  onto : ∀ v l, keyOf P kt v = some l → ∃ n, ok n ∧ lit n = l
  zer : ∀ w, (zeroValue et).run P w = .ok z w
section
variable {κ α : Type} [DecidableEq κ] {P : Program} {mt kt et : TypeId} {lit : κ → Lit} {kv : κ → Value} {ok : κ → Prop} {z : Value} {val : α → Value}
/-- A map in block bm, with these keys and elements. -/
structure Am (P : Program) (kt : TypeId) (lit : κ → Lit) (ok : κ → Prop) (val : α → Value) (w : World) (bm : Nat) (S : List (κ × α)) : Prop where
  mp : ∃ (D : DataW Value) (m : Nat), w.ownsMap P kt RHm bm m D ∧ (∀ n, Maps.has D (lit n) = (gA S n).isSome) ∧ ∀ n b, gA S n = some b → ∀ z, D.atKey (lit n) z = .held (val b)
  nd : (S.map Prod.fst).Nodup
  kk : ∀ p ∈ S, ok p.1
theorem am_tight {w : World} {b m : Nat} {D : DataW Value} (h : w.ownsMap P kt RHm b m D) : w.ownsMap P kt RHm b (Maps.size D) D := by
  obtain ⟨es, cl, h1, h2, _, rfl⟩ := h
  exact ⟨es, cl, h1, h2, by simp [Maps.size, length_sorted], rfl⟩
theorem am_blk {w w' : World} {b m : Nat} {D : DataW Value} (h : w.ownsMap P kt RHm b m D) (he : w'.heap[b]? = w.heap[b]?) : w'.ownsMap P kt RHm b m D := by
  obtain ⟨es, cl, hm, h2⟩ := h
  exact ⟨es, cl, he.trans hm, h2⟩
theorem Am.lt {w : World} {bm : Nat} {S : List (κ × α)} (h : Am P kt lit ok val w bm S) : bm < w.heap.size := by
  obtain ⟨D, m, ho, _⟩ := h.mp
  exact ho.lt
theorem Am.block {w w' : World} {bm : Nat} {S : List (κ × α)} (h : Am P kt lit ok val w bm S) (he : w'.heap[bm]? = w.heap[bm]?) : Am P kt lit ok val w' bm S := by
  obtain ⟨D, m, ho, h2⟩ := h.mp
  exact ⟨⟨D, m, am_blk ho he, h2⟩, h.nd, h.kk⟩
theorem Am.later {w w' : World} {bm : Nat} {S : List (κ × α)} (h : Am P kt lit ok val w bm S) (hb : Below w.heap.size w w') : Am P kt lit ok val w' bm S := h.block (hb.block _ h.lt)
theorem Am.new (w : World) : Am P kt lit ok val (w.alloc (.map #[] 0)) w.heap.size ([] : List (κ × α)) :=
  ⟨⟨.map [], 0, World.ownsMap_made _ _ _ _, fun n => rfl, fun n b h => by cases h⟩, by simp, fun p hp => by cases hp⟩
/-- The keys, in the order of the map's own. -/
theorem Am.keys {w : World} {bm : Nat} {S : List (κ × α)} (h : Am P kt lit ok val w bm S) (T : MTy P mt kt et lit kv ok z) :
    ∃ (D : DataW Value) (es : List (Lit × DataW Value)), D = .map es ∧ w.ownsMap P kt RHm bm S.length D ∧ (S.map fun p => lit p.1).Perm (es.map Prod.fst) ∧ (∀ n, Maps.has D (lit n) = (gA S n).isSome) ∧ ∀ n b, gA S n = some b → ∀ z, D.atKey (lit n) z = .held (val b) := by
  obtain ⟨D, m, ho, hh, ha⟩ := h.mp
  obtain ⟨es, rfl, hp, hk⟩ := ho.entries T.key
  have hki : ∀ p ∈ es, ∃ n, ok n ∧ lit n = p.1 := by
    obtain ⟨es2, e2, hk2⟩ := ho.keysOf
    injection e2 with e2
    subst e2
    intro p hp'
    obtain ⟨v, hv⟩ := hk2 p hp'
    exact T.onto v _ hv
  have h1 : (S.map fun p => lit p.1).Nodup := by
    rw [show (S.map fun p => lit p.1) = (S.map Prod.fst).map lit by rw [List.map_map]; rfl]
    unfold List.Nodup
    rw [List.pairwise_map]
    exact List.Pairwise.imp (fun hne e => hne (T.inj _ _ e)) h.nd
  have h2 : (es.map Prod.fst).Nodup := by
    unfold List.Nodup
    rw [List.pairwise_map]
    exact hp
  have hmem : ∀ n : κ, lit n ∈ es.map Prod.fst ↔ Maps.has (.map es : DataW Value) (lit n) = true := fun n => by
    rw [Maps.has_eq, List.any_eq_true, List.mem_map]
    constructor
    · rintro ⟨p, hp1, hp2⟩
      exact ⟨p, hp1, by rw [← hp2]; exact WideAt.sameKey_self (hk p hp1)⟩
    · rintro ⟨p, hp1, hp2⟩
      exact ⟨p, hp1, WideAt.sameKey_eq hp2⟩
  have hP : (S.map fun p => lit p.1).Perm (es.map Prod.fst) := (List.perm_ext_iff_of_nodup h1 h2).2 fun l => by
    constructor
    · intro hl
      obtain ⟨p, hp, rfl⟩ := List.mem_map.1 hl
      rw [hmem, hh]
      exact gA_keys.1 (List.mem_map_of_mem hp)
    · intro hl
      obtain ⟨p, hp, rfl⟩ := List.mem_map.1 hl
      obtain ⟨n, _, hn⟩ := hki p hp
      rw [← hn] at hl ⊢
      rw [hmem, hh] at hl
      obtain ⟨q, hq, e⟩ := List.mem_map.1 (gA_keys.2 hl)
      exact List.mem_map.2 ⟨q, hq, by rw [e]⟩
  have h3 : Maps.size (.map es : DataW Value) = S.length := by
    have := hP.length_eq
    rw [List.length_map, List.length_map] at this
    rw [this]
    rfl
  have h4 := am_tight ho
  rw [h3] at h4
  exact ⟨_, es, rfl, h4, hP, hh, ha⟩
theorem Am.look_ok {w : World} {bm : Nat} {S : List (κ × α)} (h : Am P kt lit ok val w bm S) (T : MTy P mt kt et lit kv ok z) (n : κ) (hn : ok n) :
    (Instr.lookup mt (.map (some bm)) (kv n) true).run P w = .ok (.tuple #[((gA S n).map val).getD z, .bool (gA S n).isSome]) w := by
  obtain ⟨D, m, ho, hh, ha⟩ := h.mp
  obtain ⟨v, ps, h1, h2⟩ := ho.look_ok T.key T.und (T.zer w) (zd := .held z) (zp := []) rfl (T.kof n hn)
  rw [hh n] at h1
  rw [h1]
  cases hg : gA S n with
  | none =>
    rw [Maps.atKey_of_not_has (by rw [hh n, hg]; rfl)] at h2
    unfold RHm at h2
    injection h2 with h2
    injection h2 with h2 _
    injection h2 with h2
    rw [h2]
    rfl
  | some b =>
    rw [ha n b hg] at h2
    unfold RHm at h2
    injection h2 with h2
    injection h2 with h2 _
    injection h2 with h2
    rw [h2]
    rfl
theorem Am.look {w : World} {bm : Nat} {S : List (κ × α)} (h : Am P kt lit ok val w bm S) (T : MTy P mt kt et lit kv ok z) (n : κ) (hn : ok n) :
    (Instr.lookup mt (.map (some bm)) (kv n) false).run P w = .ok (((gA S n).map val).getD z) w := by
  obtain ⟨D, m, ho, hh, ha⟩ := h.mp
  obtain ⟨v, ps, h1, h2⟩ := ho.lookup T.key T.und (T.zer w) (zd := .held z) (zp := []) rfl (T.kof n hn)
  rw [h1]
  cases hg : gA S n with
  | none =>
    rw [Maps.atKey_of_not_has (by rw [hh n, hg]; rfl)] at h2
    unfold RHm at h2
    injection h2 with h2
    injection h2 with h2 _
    injection h2 with h2
    rw [h2]
    rfl
  | some b =>
    rw [ha n b hg] at h2
    unfold RHm at h2
    injection h2 with h2
    injection h2 with h2 _
    injection h2 with h2
    rw [h2]
    rfl
theorem Am.store {w : World} {bm : Nat} {S : List (κ × α)} (h : Am P kt lit ok val w bm S) (T : MTy P mt kt et lit kv ok z) (n : κ) (hn : ok n) (b : α) (hl : S.length ≤ 100000000) :
    ∃ w', (Instr.mapUpdate mt (.map (some bm)) (kv n) (val b)).run P w = .ok () w' ∧ Am P kt lit ok val w' bm (pA S n b) ∧ w.mapTurned w' bm := by
  obtain ⟨D, es, hes, hm, _, hh, ha⟩ := h.keys T
  obtain ⟨w', h1, h2, h3⟩ := hm.store T.key T.und (by unfold maxLen; omega) (T.kof n hn) (val := val b) (d := .held (val b)) (ps := []) rfl
  have hne : ∀ k, k ≠ n → lit k ≠ lit n := fun k hk e => hk (T.inj _ _ e)
  refine ⟨w', h1, ⟨⟨_, _, h2, fun k => ?_, fun k b' hk z => ?_⟩, nd_put h.nd n b, fun p hp => ?_⟩, h3⟩
  · by_cases e : k = n
    · subst e
      rw [has_put_same hm.isMap (T.isl k hn), gA_put, if_pos rfl]
      rfl
    · rw [has_put_other (hne k e), gA_put, if_neg e]
      exact hh k
  · rw [gA_put] at hk
    by_cases e : k = n
    · subst e
      rw [if_pos rfl] at hk
      rw [atKey_put_same hm.isMap (T.isl k hn), Option.some.inj hk]
    · rw [if_neg e] at hk
      rw [atKey_put_other (hne k e), ha k b' hk]
  · rcases (pA_keys S n b p.1).1 (List.mem_map_of_mem hp) with e | e
    · rw [e]; exact hn
    · obtain ⟨q, hq, e⟩ := List.mem_map.1 e
      rw [← e]; exact h.kk q hq
theorem Am.drop {w : World} {bm : Nat} {S : List (κ × α)} (h : Am P kt lit ok val w bm S) (T : MTy P mt kt et lit kv ok z) (n : κ) (hn : ok n) (ty : TypeId) :
    ∃ w', (Builtin.delete_ #[mt, kt] ty #[.map (some bm), kv n]).run P w = .ok (.tuple #[]) w' ∧ Am P kt lit ok val w' bm (dA S n) ∧ w.mapTurned w' bm := by
  obtain ⟨D, m, hm, hh, ha⟩ := h.mp
  obtain ⟨w', h1, h2, h3⟩ := hm.drop T.key T.und (T.kof n hn) ty
  have hne : ∀ k, k ≠ n → lit k ≠ lit n := fun k hk e => hk (T.inj _ _ e)
  refine ⟨w', h1, ⟨⟨_, _, h2, fun k => ?_, fun k b' hk z => ?_⟩, nd_del h.nd n, fun p hp => h.kk p ((List.mem_filter.1 hp).1)⟩, h3⟩
  · by_cases e : k = n
    · subst e
      rw [has_del_same, gA_del, if_pos rfl]
      rfl
    · rw [has_del_other (hne k e), gA_del, if_neg e]
      exact hh k
  · rw [gA_del] at hk
    by_cases e : k = n
    · rw [if_pos e] at hk; cases hk
    · rw [if_neg e] at hk
      rw [atKey_del_other (hne k e), ha k b' hk]
theorem Am.len {w : World} {bm : Nat} {S : List (κ × α)} (h : Am P kt lit ok val w bm S) (T : MTy P mt kt et lit kv ok z) (ty : TypeId) :
    (Builtin.len_ #[mt] ty #[.map (some bm)]).run P w = .ok (.int .i64 S.length) w := by
  obtain ⟨D, es, rfl, hm, hP, _, _⟩ := h.keys T
  rw [hm.len T.und ty]
  have := hP.length_eq
  rw [List.length_map, List.length_map] at this
  rw [this]
  rfl
end
end Go.Proofs.YtimkgaokcldgkaaGreatDoor
/- Package front, told by lists: the queues of hosts, where requests are, the Paths in memory. No program here. -/
namespace Go.Proofs.YtimkgaokcldgkaaGreatDoor
open Go Go.RowKit Go.Maps
set_option linter.unusedVariables false
set_option linter.unusedSimpArgs false
set_option maxRecDepth 10000

/-- A request without its Path. -/
def noP (r : Rq) : Rq := ⟨r.id, r.host, ⟨#[]⟩, r.prio, r.til⟩
structure Ft where
  per : Int
  mem : Int
  R : Int → List Rq
  hs : List (Int × Int)
  ps : List (Int × ByteArray)
def setR (R : Int → List Rq) (h : Int) (l : List Rq) : Int → List Rq := fun k => if k = h then l else R k
def insF (F : Ft) (h : Int) (r : Rq) : Ft := ⟨F.per, F.mem, setR F.R h (insQ (F.R h) (noP r)), pA F.hs r.id h, if (F.ps.length : Int) < F.mem then pA F.ps r.id r.path else F.ps⟩
def drpF (F : Ft) (h id : Int) : Ft := ⟨F.per, F.mem, setR F.R h ((F.R h).filter fun x => !decide (x.id = id)), dA F.hs id, dA F.ps id⟩
/-- What keep makes of the Paths. -/
def kepS (S : List (Int × ByteArray)) (mem : Int) (id : Int) (p : ByteArray) (S' : List (Int × ByteArray)) : Prop :=
  (((gA S id).isSome = true ∨ (S.length : Int) < mem) ∧ S' = pA S id p) ∨ (gA S id = none ∧ mem ≤ (S.length : Int) ∧ ∃ x, (gA S x).isSome = true ∧ S' = pA (dA S x) id p)
structure FtOk (F : Ft) : Prop where
  ids : ∀ id h, gA F.hs id = some h ↔ ∃ x ∈ F.R h, x.id = id
  nd : (F.hs.map Prod.fst).Nodup
  sub : ∀ id, (gA F.ps id).isSome = true → (gA F.hs id).isSome = true
  lim : (F.ps.length : Int) ≤ F.mem
  mem1 : 1 ≤ F.mem
  srt : ∀ h, Srt (F.R h)
theorem len_dA_in {κ α : Type} [DecidableEq κ] : ∀ {S : List (κ × α)} {n : κ}, (gA S n).isSome = true → (dA S n).length + 1 ≤ S.length
  | [], n, h => by cases h
  | (m, c) :: t, n, h => by
    unfold dA
    by_cases e : m = n
    · rw [List.filter_cons_of_neg (by simp [e])]
      have := List.length_filter_le (fun p : κ × α => decide (p.1 ≠ n)) t
      rw [List.length_cons]
      omega
    · rw [List.filter_cons_of_pos (by simp [e])]
      rw [gA, if_neg e] at h
      have := len_dA_in h
      unfold dA at this
      rw [List.length_cons, List.length_cons]
      omega
theorem len_pA_new {κ α : Type} [DecidableEq κ] {S : List (κ × α)} {n : κ} (b : α) (h : gA S n = none) : (pA S n b).length = S.length + 1 := by
  rw [len_pA, h]; rfl
theorem len_pA_le {κ α : Type} [DecidableEq κ] (S : List (κ × α)) (n : κ) (b : α) : (pA S n b).length ≤ S.length + 1 := by
  rw [len_pA]; split <;> omega
theorem FtOk.no {F : Ft} (h : FtOk F) {id : Int} (hn : gA F.hs id = none) (k : Int) : ∀ x ∈ F.R k, x.id ≠ id := fun x hx e => by
  have := (h.ids id k).2 ⟨x, hx, e⟩
  rw [hn] at this
  cases this
theorem FtOk.ins {F : Ft} (hF : FtOk F) (h : Int) (r : Rq) (hn : gA F.hs r.id = none) : FtOk (insF F h r) := by
  have hps : gA F.ps r.id = none := by
    cases hg : gA F.ps r.id with
    | none => rfl
    | some v =>
      have := hF.sub r.id (by rw [hg]; rfl)
      rw [hn] at this
      cases this
  refine ⟨fun id k => ?_, nd_put hF.nd _ _, fun id hi => ?_, ?_, hF.mem1, fun k => ?_⟩
  · show gA (pA F.hs r.id h) id = some k ↔ ∃ x ∈ setR F.R h (insQ (F.R h) (noP r)) k, x.id = id
    rw [gA_put]
    unfold setR
    by_cases e : id = r.id
    · subst e
      rw [if_pos rfl]
      constructor
      · intro e2
        injection e2 with e2
        rw [if_pos e2.symm]
        exact ⟨noP r, insQ_mem.2 (Or.inl rfl), rfl⟩
      · rintro ⟨x, hx, e2⟩
        by_cases e3 : k = h
        · rw [e3]
        · rw [if_neg e3] at hx
          exact absurd e2 (hF.no hn k x hx)
    · rw [if_neg e, hF.ids]
      by_cases e3 : k = h
      · rw [if_pos e3, e3]
        constructor
        · rintro ⟨x, hx, e2⟩
          exact ⟨x, insQ_mem.2 (Or.inr hx), e2⟩
        · rintro ⟨x, hx, e2⟩
          rcases insQ_mem.1 hx with hx | hx
          · subst hx; exact absurd e2.symm e
          · exact ⟨x, hx, e2⟩
      · rw [if_neg e3]
  · have hi : (gA (if (F.ps.length : Int) < F.mem then pA F.ps r.id r.path else F.ps) id).isSome = true := hi
    show (gA (pA F.hs r.id h) id).isSome = true
    rw [gA_put]
    by_cases e : id = r.id
    · rw [if_pos e]; rfl
    · rw [if_neg e]
      split at hi
      · rw [gA_put, if_neg e] at hi; exact hF.sub id hi
      · exact hF.sub id hi
  · show ((if (F.ps.length : Int) < F.mem then pA F.ps r.id r.path else F.ps).length : Int) ≤ F.mem
    split
    · rw [len_pA_new _ hps]; omega
    · exact hF.lim
  · show Srt (setR F.R h (insQ (F.R h) (noP r)) k)
    unfold setR
    split
    · exact srt_ins (hF.srt h) fun x hx => hF.no hn h x hx
    · exact hF.srt k
theorem FtOk.drp {F : Ft} (hF : FtOk F) {h id : Int} (hh : gA F.hs id = some h) : FtOk (drpF F h id) := by
  refine ⟨fun i k => ?_, nd_del hF.nd _, fun i hi => ?_, ?_, hF.mem1, fun k => ?_⟩
  · show gA (dA F.hs id) i = some k ↔ ∃ x ∈ setR F.R h ((F.R h).filter fun x => !decide (x.id = id)) k, x.id = i
    rw [gA_del]
    unfold setR
    by_cases e : i = id
    · rw [if_pos e]
      subst e
      constructor
      · intro e2; cases e2
      · rintro ⟨x, hx, e2⟩
        by_cases e3 : k = h
        · rw [if_pos e3] at hx
          obtain ⟨_, h2⟩ := List.mem_filter.1 hx
          simp [e2] at h2
        · rw [if_neg e3] at hx
          have := (hF.ids i k).2 ⟨x, hx, e2⟩
          rw [hh] at this
          injection this with this
          exact absurd this.symm e3
    · rw [if_neg e, hF.ids]
      by_cases e3 : k = h
      · rw [if_pos e3, e3]
        constructor
        · rintro ⟨x, hx, e2⟩
          exact ⟨x, List.mem_filter.2 ⟨hx, by rw [e2]; simp [e]⟩, e2⟩
        · rintro ⟨x, hx, e2⟩
          exact ⟨x, (List.mem_filter.1 hx).1, e2⟩
      · rw [if_neg e3]
  · have hi : (gA (dA F.ps id) i).isSome = true := hi
    show (gA (dA F.hs id) i).isSome = true
    rw [gA_del] at hi ⊢
    by_cases e : i = id
    · rw [if_pos e] at hi; cases hi
    · rw [if_neg e] at hi ⊢; exact hF.sub i hi
  · show ((dA F.ps id).length : Int) ≤ F.mem
    have := len_dA F.ps id
    have := hF.lim
    omega
  · show Srt (setR F.R h ((F.R h).filter fun x => !decide (x.id = id)) k)
    unfold setR
    split
    · exact srt_filter (hF.srt h) _
    · exact hF.srt k
theorem FtOk.kep {F : Ft} (hF : FtOk F) {id : Int} {p : ByteArray} {S' : List (Int × ByteArray)} (hi : (gA F.hs id).isSome = true) (hk : kepS F.ps F.mem id p S') : FtOk ⟨F.per, F.mem, F.R, F.hs, S'⟩ := by
  refine ⟨hF.ids, hF.nd, fun i h2 => ?_, ?_, hF.mem1, hF.srt⟩
  · have h2 : (gA S' i).isSome = true := h2
    show (gA F.hs i).isSome = true
    by_cases e : i = id
    · rw [e]; exact hi
    · rcases hk with ⟨_, rfl⟩ | ⟨_, _, x, _, rfl⟩
      · rw [gA_put, if_neg e] at h2; exact hF.sub i h2
      · rw [gA_put, if_neg e, gA_del] at h2
        split at h2
        · cases h2
        · exact hF.sub i h2
  · show (S'.length : Int) ≤ F.mem
    have h1 := hF.lim
    rcases hk with ⟨h, rfl⟩ | ⟨hn, _, x, hx, rfl⟩
    · rcases h with h | h
      · rw [len_pA, h]; exact h1
      · have := len_pA_le F.ps id p; omega
    · have h3 := len_dA_in hx
      have := len_pA_le (dA F.ps x) id p
      omega
/-- What all Paths are, as far as they are in memory. -/
def PsOk (F : Ft) (want : Int → ByteArray) : Prop := ∀ i p, gA F.ps i = some p → p = want i
theorem PsOk.ins {F : Ft} {want : Int → ByteArray} (h : PsOk F want) (k : Int) (r : Rq) (hw : r.path = want r.id) : PsOk (insF F k r) want := fun i p hp => by
  have hp : gA (if (F.ps.length : Int) < F.mem then pA F.ps r.id r.path else F.ps) i = some p := hp
  split at hp
  · rw [gA_put] at hp
    split at hp
    · rename_i e
      injection hp with hp
      rw [← hp, e, hw]
    · exact h i p hp
  · exact h i p hp
theorem PsOk.drp {F : Ft} {want : Int → ByteArray} (h : PsOk F want) (k id : Int) : PsOk (drpF F k id) want := fun i p hp => by
  have hp : gA (dA F.ps id) i = some p := hp
  rw [gA_del] at hp
  split at hp
  · cases hp
  · exact h i p hp
theorem PsOk.kep {F : Ft} {want : Int → ByteArray} (h : PsOk F want) {id : Int} {S' : List (Int × ByteArray)} (hk : kepS F.ps F.mem id (want id) S') : PsOk ⟨F.per, F.mem, F.R, F.hs, S'⟩ want := fun i p hp => by
  have hp : gA S' i = some p := hp
  rcases hk with ⟨_, rfl⟩ | ⟨_, _, x, _, rfl⟩
  · rw [gA_put] at hp
    split at hp
    · rename_i e; injection hp with hp; rw [← hp, e]
    · exact h i p hp
  · rw [gA_put] at hp
    split at hp
    · rename_i e; injection hp with hp; rw [← hp, e]
    · rw [gA_del] at hp
      split at hp
      · cases hp
      · exact h i p hp
end Go.Proofs.YtimkgaokcldgkaaGreatDoor
/- Package spill, told by lists: places, waits, the index that results from records. No program here. -/
namespace Go.Proofs.YtimkgaokcldgkaaGreatDoor
open Go
set_option linter.unusedVariables false
set_option linter.unusedSimpArgs false

structure Pl where
  seg : Int
  off : Int
  size : Int
  deriving DecidableEq
structure Wt where
  till : Int
  at_ : Pl
  deriving DecidableEq
def pl0 : Pl := ⟨0, 0, 0⟩
def wt0 : Wt := ⟨0, pl0⟩
def nowh : Pl := ⟨9223372036854775807, 9223372036854775807, 0⟩
structure Ix where
  puts : List (Int × Pl)
  waits : List (ByteArray × Wt)
  top : Int
def ix0 : Ix := ⟨[], [], 0⟩
def tillI (x : Ix) (host : ByteArray) : Int := ((gA x.waits host).getD wt0).till
def newsI (x : Ix) (host : ByteArray) (till : Int) : Bool := !decide (till ≤ tillI x host)
def pauseI (x : Ix) (host : ByteArray) (till : Int) (at_ : Pl) : Ix := if newsI x host till then { x with waits := pA x.waits host ⟨till, at_⟩ } else x
def applyI (x : Ix) (r : Rc) (at_ : Pl) : Ix :=
  if r.kind = 1 then { x with puts := pA x.puts r.id at_, top := max x.top r.id }
  else if r.kind = 2 then { x with puts := dA x.puts r.id, top := max x.top r.id }
  else if r.kind = 3 then pauseI x r.host r.till at_
  else x
/-- The records of one segment, from an offset on. -/
def recsI (seg : Int) : Int → List Rc → Ix → Ix
  | _, [], x => x
  | off, r :: t, x => recsI seg (off + (encR r).length) t (applyI x r ⟨seg, off, (encR r).length⟩)
def followL (l : List Int) : Int × Bool := match l.getLast? with
  | none => (0, true)
  | some v => if v = 9223372036854775807 then (0, false) else (v + 1, true)
end Go.Proofs.YtimkgaokcldgkaaGreatDoor
/- A region that draws its order, whose loads are taken first although ITS LAST STORE (number k) overwrites what they read: the condition S on the world is not asked for behind k, as long as k waits, over other operations, for each load that is taken first. No program here. -/
namespace Go.Proofs.YtimkgaokcldgkaaGreatDoor
open Go

section
variable {P : Program} {ops : Array Oper} {Q : Exit → Act → World → Prop} {md : Region.Mode} {S : World → Prop} {k : Nat}

theorem put_at (l : List Value) (ds : List Deferred) (d : Nat) (v : Value) : Act.put ⟨l.toArray, ds⟩ (some d) v = ⟨(l.set d v).toArray, ds⟩ := by simp [Act.put]
/-- Does j wait for i, perhaps over others? -/
def waitsFor (md : Region.Mode) (ops : Array Oper) : Nat → Nat → Nat → Bool
  | 0, _, _ => false
  | n + 1, j, i => match ops[j]? with
    | some o => o.after.any fun e => Region.binds md e && (e.on == i || waitsFor md ops n e.on i)
    | none => false
/-- Whatever has come up waited for nothing that has not. -/
def Closed (md : Region.Mode) (ops : Array Oper) (listed : Array Bool) : Prop :=
  ∀ m o, ops[m]? = some o → listed.getD m false = true → ∀ e ∈ o.after, Region.binds md e = true → listed.getD e.on false = true
theorem Closed.start : Closed md ops (Array.replicate ops.size false) := by
  intro m o _ h
  by_cases hm : m < ops.size
  · simp [hm] at h
  · simp [hm] at h
theorem Closed.step {listed : Array Bool} (hc : Closed md ops listed) {i : Nat} (hi : i ∈ Region.ready md ops listed) : Closed md ops (listed.setIfInBounds i true) := by
  intro m o hm hl e he hb
  obtain ⟨_, oi, hoi, hall⟩ := mem_ready.1 hi
  refine getD_set_true ?_
  by_cases hmi : m = i
  · subst hmi
    rw [hm] at hoi
    injection hoi with hoi
    subst hoi
    exact hall e he hb
  · refine hc m o hm ?_ e he hb
    rw [Array.getD_eq_getD_getElem?] at hl ⊢
    rwa [Array.getElem?_setIfInBounds_ne (Ne.symm hmi)] at hl
theorem listed_of_waits {listed : Array Bool} (hc : Closed md ops listed) : ∀ (n j i : Nat), waitsFor md ops n j i = true → listed.getD j false = true → listed.getD i false = true
  | 0, _, _, h, _ => by simp [waitsFor] at h
  | n + 1, j, i, h, hj => by
    unfold waitsFor at h
    split at h
    · rename_i o ho
      obtain ⟨e, he, h⟩ := Array.any_eq_true'.1 h
      simp only [Bool.and_eq_true, Bool.or_eq_true, beq_iff_eq] at h
      have h1 := hc j o ho hj e he h.1
      rcases h.2 with h2 | h2
      · rw [← h2]; exact h1
      · exact listed_of_waits hc n e.on i h2 h1
    · cases h
theorem not_ready {listed : Array Bool} (hc : Closed md ops listed) {n i : Nat} (hw : waitsFor md ops n k i = true) (hi : i ∈ Region.ready md ops listed) : k ∉ Region.ready md ops listed := by
  intro hk
  obtain ⟨h0, _⟩ := mem_ready.1 hi
  obtain ⟨_, o, ho, hall⟩ := mem_ready.1 hk
  cases n with
  | zero => simp [waitsFor] at hw
  | succ n =>
    unfold waitsFor at hw
    simp only [ho] at hw
    obtain ⟨e, he, h⟩ := Array.any_eq_true'.1 hw
    simp only [Bool.and_eq_true, Bool.or_eq_true, beq_iff_eq] at h
    have h1 := hall e he h.1
    have h2 : listed.getD i false = true := by
      rcases h.2 with h2 | h2
      · rw [← h2]; exact h1
      · exact listed_of_waits hc n e.on i h2 h1
    rw [Array.getD_eq_getD_getElem?] at h0 h2
    cases hx : listed[i]? with
    | none => rw [hx] at h2; simp at h2
    | some b => rw [hx] at h0 h2; simp at h0 h2; rw [h0] at h2; cases h2

/-- Whatever order is picked from here on, and S holds behind every operation but k. -/
def wpAnyL (P : Program) (md : Region.Mode) (ops : Array Oper) (Q : Exit → Act → World → Prop) (S : World → Prop) (k : Nat) : Nat → Array Bool → Act → World → Prop
  | 0, listed, a, w => Region.ready md ops listed = [] ∧ Q .normal a w
  | fuel + 1, listed, a, w =>
    (Region.ready md ops listed = [] → Q .normal a w) ∧
    ∀ i ∈ Region.ready md ops listed, wpOp P ops Q i (fun a' w' => (i ≠ k → S w') ∧ wpAnyL P md ops Q S k fuel (listed.setIfInBounds i true) a' w') a w
theorem wpAny_of_last : ∀ (fuel : Nat) (listed : Array Bool) (a : Act) (w : World), wpAnyL P md ops Q S k fuel listed a w → wpAny P md ops Q fuel listed a w
  | 0, _, _, _, h => h
  | fuel + 1, _, _, _, h => ⟨h.1, fun i hi => wpOp_mono (fun a' w' h' => wpAny_of_last fuel _ a' w' h'.2) (h.2 i hi)⟩

theorem wpAnyL_first {i n : Nat} {oi : Oper} {v : Value} (hi : ops[i]? = some oi) (hsel : ∀ (j : Nat) (o : Oper) cs b, ops[j]? = some o → o.op ≠ .select cs b)
    (hQ : ∀ c a w, Q (.panic c) (a.put oi.dst v) w → Q (.panic c) a w) (hik : i ≠ k) (hwait : waitsFor md ops n k i = true) :
    ∀ (fuel : Nat) (listed : Array Bool) (a : Act) (w : World), Closed md ops listed →
      (∀ j oj, ops[j]? = some oj → j ≠ i → listed.getD j true = false → (∀ e ∈ oj.after, Region.binds md e = true → e.on ≠ i) → oi.apart ops oj = true) →
      i ∈ Region.ready md ops listed → YieldsIf P ops S oi v a → S w →
      wpAnyL P md ops Q S k fuel (listed.setIfInBounds i true) (a.put oi.dst v) w → wpAnyL P md ops Q S k (fuel + 1) listed a w := by
  intro fuel
  induction fuel with
  | zero =>
    intro listed a w _ _ hr hy hS H
    refine ⟨fun h => (by rw [h] at hr; cases hr), fun j hj => ?_⟩
    by_cases hji : j = i
    · subst hji; exact hy.wpOp hi hS ⟨fun _ => hS, H⟩
    · have := ready_mono hj hji
      rw [H.1] at this
      cases this
  | succ fuel ih =>
    intro listed a w hc hfree hr hy hS H
    refine ⟨fun h => (by rw [h] at hr; cases hr), fun j hj => ?_⟩
    by_cases hji : j = i
    · subst hji; exact hy.wpOp hi hS ⟨fun _ => hS, H⟩
    · have hjk : j ≠ k := fun e => not_ready hc hwait hr (e ▸ hj)
      have h1 := H.2 j (ready_mono hj hji)
      obtain ⟨hjun, oj, hoj, hall⟩ := mem_ready.1 hj
      have hnot : ∀ e ∈ oj.after, Region.binds md e = true → e.on ≠ i := fun e he hb heq => by
        have h1 := hall e he hb
        have h0 := (mem_ready.1 hr).1
        rw [heq] at h1
        rcases Nat.lt_or_ge i listed.size with h' | h'
        · simp [h'] at h0 h1; rw [h0] at h1; cases h1
        · simp [Array.getElem?_eq_none h'] at h1
      have h2 := wpOp_putIf hoj (hfree j oj hoj hji hjun hnot) (fun cs b => hsel i oi cs b hi) (fun cs b => hsel j oj cs b hoj) hQ hy h1
      have hfree' : ∀ m om, ops[m]? = some om → m ≠ i → (listed.setIfInBounds j true).getD m true = false →
          (∀ e ∈ om.after, Region.binds md e = true → e.on ≠ i) → oi.apart ops om = true := fun m om hm hmi hun hno => by
        refine hfree m om hm hmi ?_ hno
        by_cases hjm : j = m
        · subst hjm; exact hjun
        · rw [getD_set_ne true hjm] at hun; exact hun
      refine wpOp_mono (fun a' w' h3 => ⟨h3.2.1, ih (listed.setIfInBounds j true) a' w' (hc.step hj) hfree' (ready_mono hr (Ne.symm hji)) h3.1 (h3.2.1 hjk) ?_⟩) h2
      rw [Array.setIfInBounds_comm _ _ hji]
      exact h3.2.2

/-- Take number i first. -/
theorem wpAnyL_take {i : Nat} {oi : Oper} {v : Value} {fuel : Nat} {listed : Array Bool} {a : Act} {w : World} (hi : ops[i]? = some oi)
    (hs : Region.noSelect ops = true) (hf : Region.free md ops listed i = true) (hr : (Region.ready md ops listed).contains i = true) (hw : waitsFor md ops ops.size k i = true)
    (hQ : ∀ c a w, Q (.panic c) (a.put oi.dst v) w → Q (.panic c) a w) (hik : (i == k) = false) (hc : Closed md ops listed) (hy : YieldsIf P ops S oi v a) (hS : S w)
    (h : Closed md ops (listed.setIfInBounds i true) → wpAnyL P md ops Q S k fuel (listed.setIfInBounds i true) (a.put oi.dst v) w) : wpAnyL P md ops Q S k (fuel + 1) listed a w :=
  wpAnyL_first hi (Region.noSelect_spec hs) hQ (by simpa using hik) hw fuel listed a w hc (Region.free_spec hi hf) (by simpa using hr) hy hS (h (hc.step (by simpa using hr)))
/-- The only one that may come up comes up. -/
theorem wpAnyL_one {i : Nat} {oi : Oper} {fuel : Nat} {listed : Array Bool} {a : Act} {w : World} (hi : ops[i]? = some oi) (hr : Region.ready md ops listed = [i]) (hik : (i == k) = false) (hc : Closed md ops listed)
    (h : ∀ K' : Act → World → Prop, Shut (∀ a w, S w → (Closed md ops (listed.setIfInBounds i true) → S w → wpAnyL P md ops Q S k fuel (listed.setIfInBounds i true) a w) → K' a w) → if Region.wanted oi (yielded ops a.tmps) = true then Oper.wp P oi a w K' Q else K' (a.put oi.dst undef) w) :
    wpAnyL P md ops Q S k (fuel + 1) listed a w := by
  refine ⟨fun h0 => (by rw [hr] at h0; cases h0), fun j hj => ?_⟩
  rw [hr] at hj
  obtain rfl : j = i := by simpa using hj
  exact wpOp_step hi (fun K' hK => h K' (fun a w hS hW => hK a w ⟨fun _ => hS, hW (hc.step (by rw [hr]; simp)) hS⟩))
/-- The last one: k itself; behind it the region is over. -/
theorem wpAnyL_last {oi : Oper} {fuel : Nat} {listed : Array Bool} {a : Act} {w : World} (hi : ops[k]? = some oi) (hr : Region.ready md ops listed = [k]) (hd : Region.ready md ops (listed.setIfInBounds k true) = [])
    (h : ∀ K' : Act → World → Prop, Shut (∀ a w, Q .normal a w → K' a w) → if Region.wanted oi (yielded ops a.tmps) = true then Oper.wp P oi a w K' Q else K' (a.put oi.dst undef) w) :
    wpAnyL P md ops Q S k (fuel + 1) listed a w := by
  refine ⟨fun h0 => (by rw [hr] at h0; cases h0), fun j hj => ?_⟩
  rw [hr] at hj
  obtain rfl : j = k := by simpa using hj
  refine wpOp_step hi (fun K' hK => h K' (fun a w hQ => hK a w ⟨fun hne => absurd rfl hne, ?_⟩))
  cases fuel with
  | zero => exact ⟨hd, hQ⟩
  | succ n => exact ⟨fun _ => hQ, fun i hi => (by rw [hd] at hi; cases hi)⟩
/-- Two may come up. -/
theorem wpAnyL_two {i j : Nat} {oi oj : Oper} {fuel : Nat} {listed : Array Bool} {a : Act} {w : World} (hi : ops[i]? = some oi) (hj : ops[j]? = some oj) (hr : Region.ready md ops listed = [i, j]) (hik : (i == k) = false) (hjk : (j == k) = false) (hc : Closed md ops listed)
    (h : ∀ K' : Act → World → Prop, Shut (∀ a w, S w → (Closed md ops (listed.setIfInBounds i true) → S w → wpAnyL P md ops Q S k fuel (listed.setIfInBounds i true) a w) → K' a w) → if Region.wanted oi (yielded ops a.tmps) = true then Oper.wp P oi a w K' Q else K' (a.put oi.dst undef) w)
    (h2 : ∀ K' : Act → World → Prop, Shut (∀ a w, S w → (Closed md ops (listed.setIfInBounds j true) → S w → wpAnyL P md ops Q S k fuel (listed.setIfInBounds j true) a w) → K' a w) → if Region.wanted oj (yielded ops a.tmps) = true then Oper.wp P oj a w K' Q else K' (a.put oj.dst undef) w) :
    wpAnyL P md ops Q S k (fuel + 1) listed a w := by
  refine ⟨fun h0 => (by rw [hr] at h0; cases h0), fun m hm => ?_⟩
  have hcm := hc.step hm
  rw [hr] at hm
  rcases (by simpa using hm : m = i ∨ m = j) with rfl | rfl
  · exact wpOp_step hi (fun K' hK => h K' (fun a w hS hW => hK a w ⟨fun _ => hS, hW hcm hS⟩))
  · exact wpOp_step hj (fun K' hK => h2 K' (fun a w hS hW => hK a w ⟨fun _ => hS, hW hcm hS⟩))
/-- The beginning. -/
theorem wp_region_last {id : Nat} {a : Act} {w : World} (k : Nat) (S : World → Prop) (hm : P.follows .mixedOrders = true) (hS : S w.drew)
    (h : S w.drew → Closed .any ops (Array.replicate ops.size false) → wpAnyL P .any ops Q S k ops.size (Array.replicate ops.size false) a w.drew) : (Code.region id ops true).wp P Q a w :=
  wp_region_any hm (wpAny_of_last _ _ _ _ (h hS Closed.start))
/-- To name the world by what holds of it. -/
theorem last_forget {fuel : Nat} {listed : Array Bool} {a : Act} {w : World} (T : World → Prop) (h : T w) (g : ∀ w', T w' → wpAnyL P md ops Q S k fuel listed a w') : wpAnyL P md ops Q S k fuel listed a w := g w h
end
end Go.Proofs.YtimkgaokcldgkaaGreatDoor
/- As Last, of several operations K of a region, which break the condition S: S is asked for only as long as none of them has come up; a load is taken first if each of K waits for it, perhaps over others; what reads nothing is taken at any time. No program here. -/
namespace Go.Proofs.YtimkgaokcldgkaaGreatDoor
open Go

section
variable {P : Program} {ops : Array Oper} {Q : Exit → Act → World → Prop} {md : Region.Mode} {S : World → Prop} {K : List Nat}
/-- None of K has come up. -/
def NoK (K : List Nat) (listed : Array Bool) : Bool := K.all fun k => !listed.getD k false
theorem noK_of {listed : Array Bool} {j : Nat} (h : NoK K (listed.setIfInBounds j true) = true) : NoK K listed = true := by
  unfold NoK at *
  rw [List.all_eq_true] at *
  intro k hk
  have h1 := h k hk
  simp only [Bool.not_eq_true'] at h1 ⊢
  cases hg : listed.getD k false with
  | false => rfl
  | true => rw [getD_set_true hg] at h1; cases h1
theorem noK_set {listed : Array Bool} {i : Nat} (h : NoK K listed = true) (hi : K.contains i = false) : NoK K (listed.setIfInBounds i true) = true := by
  unfold NoK at *
  rw [List.all_eq_true] at *
  intro k hk
  have h1 := h k hk
  simp only [Bool.not_eq_true'] at h1 ⊢
  have e : i ≠ k := fun e => by subst e; simp [hk] at hi
  rw [Array.getD_eq_getD_getElem?] at h1 ⊢
  rw [Array.getElem?_setIfInBounds_ne e]
  exact h1
/-- Whatever order is picked from here on. -/
def wpAnyM (P : Program) (md : Region.Mode) (ops : Array Oper) (Q : Exit → Act → World → Prop) (S : World → Prop) (K : List Nat) : Nat → Array Bool → Act → World → Prop
  | 0, listed, a, w => Region.ready md ops listed = [] ∧ Q .normal a w
  | fuel + 1, listed, a, w =>
    (Region.ready md ops listed = [] → Q .normal a w) ∧
    ∀ i ∈ Region.ready md ops listed, wpOp P ops Q i (fun a' w' => (NoK K (listed.setIfInBounds i true) = true → S w') ∧ wpAnyM P md ops Q S K fuel (listed.setIfInBounds i true) a' w') a w
theorem wpAny_of_lastM : ∀ (fuel : Nat) (listed : Array Bool) (a : Act) (w : World), wpAnyM P md ops Q S K fuel listed a w → wpAny P md ops Q fuel listed a w
  | 0, _, _, _, h => h
  | fuel + 1, _, _, _, h => ⟨h.1, fun i hi => wpOp_mono (fun a' w' h' => wpAny_of_lastM fuel _ a' w' h'.2) (h.2 i hi)⟩
theorem wpAnyM_first {i : Nat} {oi : Oper} {v : Value} {T : World → Prop} (hi : ops[i]? = some oi) (hsel : ∀ (j : Nat) (o : Oper) cs b, ops[j]? = some o → o.op ≠ .select cs b)
    (hQ : ∀ c a w, Q (.panic c) (a.put oi.dst v) w → Q (.panic c) a w) (hik : K.contains i = false)
    (hT : ∀ listed w, Closed md ops listed → i ∈ Region.ready md ops listed → (NoK K listed = true → S w) → T w) :
    ∀ (fuel : Nat) (listed : Array Bool) (a : Act) (w : World), Closed md ops listed →
      (∀ j oj, ops[j]? = some oj → j ≠ i → listed.getD j true = false → (∀ e ∈ oj.after, Region.binds md e = true → e.on ≠ i) → oi.apart ops oj = true) →
      i ∈ Region.ready md ops listed → YieldsIf P ops T oi v a → (NoK K listed = true → S w) →
      wpAnyM P md ops Q S K fuel (listed.setIfInBounds i true) (a.put oi.dst v) w → wpAnyM P md ops Q S K (fuel + 1) listed a w := by
  intro fuel
  induction fuel with
  | zero =>
    intro listed a w hc _ hr hy hS H
    refine ⟨fun h => (by rw [h] at hr; cases hr), fun j hj => ?_⟩
    by_cases hji : j = i
    · subst hji; exact hy.wpOp hi (hT _ _ hc hr hS) ⟨fun hn => hS (noK_of hn), H⟩
    · have := ready_mono hj hji
      rw [H.1] at this
      cases this
  | succ fuel ih =>
    intro listed a w hc hfree hr hy hS H
    refine ⟨fun h => (by rw [h] at hr; cases hr), fun j hj => ?_⟩
    by_cases hji : j = i
    · subst hji; exact hy.wpOp hi (hT _ _ hc hr hS) ⟨fun hn => hS (noK_of hn), H⟩
    · have h1 := H.2 j (ready_mono hj hji)
      obtain ⟨hjun, oj, hoj, hall⟩ := mem_ready.1 hj
      have hnot : ∀ e ∈ oj.after, Region.binds md e = true → e.on ≠ i := fun e he hb heq => by
        have h1 := hall e he hb
        have h0 := (mem_ready.1 hr).1
        rw [heq] at h1
        rcases Nat.lt_or_ge i listed.size with h' | h'
        · simp [h'] at h0 h1; rw [h0] at h1; cases h1
        · simp [Array.getElem?_eq_none h'] at h1
      have h2 := wpOp_putIf hoj (hfree j oj hoj hji hjun hnot) (fun cs b => hsel i oi cs b hi) (fun cs b => hsel j oj cs b hoj) hQ hy h1
      have hfree' : ∀ m om, ops[m]? = some om → m ≠ i → (listed.setIfInBounds j true).getD m true = false →
          (∀ e ∈ om.after, Region.binds md e = true → e.on ≠ i) → oi.apart ops om = true := fun m om hm hmi hun hno => by
        refine hfree m om hm hmi ?_ hno
        by_cases hjm : j = m
        · subst hjm; exact hjun
        · rw [getD_set_ne true hjm] at hun; exact hun
      refine wpOp_mono (fun a' w' h3 => ?_) h2
      have hS' : NoK K (listed.setIfInBounds j true) = true → S w' := fun hn => h3.2.1 (by
        rw [Array.setIfInBounds_comm _ _ (Ne.symm hji)]
        exact noK_set hn hik)
      refine ⟨hS', ih (listed.setIfInBounds j true) a' w' (hc.step hj) hfree' (ready_mono hr (Ne.symm hji)) h3.1 hS' ?_⟩
      rw [Array.setIfInBounds_comm _ _ hji]
      exact h3.2.2
/-- Number i, which each of K waits for, is taken first: what it reads is told by S. -/
theorem wpAnyM_take {i : Nat} {oi : Oper} {v : Value} {fuel : Nat} {listed : Array Bool} {a : Act} {w : World} (hi : ops[i]? = some oi)
    (hs : Region.noSelect ops = true) (hf : Region.free md ops listed i = true) (hr : (Region.ready md ops listed).contains i = true) (hw : (K.all fun k => waitsFor md ops ops.size k i) = true)
    (hQ : ∀ c a w, Q (.panic c) (a.put oi.dst v) w → Q (.panic c) a w) (hik : K.contains i = false) (hc : Closed md ops listed) (hy : YieldsIf P ops S oi v a) (hS : NoK K listed = true → S w)
    (h : Closed md ops (listed.setIfInBounds i true) → wpAnyM P md ops Q S K fuel (listed.setIfInBounds i true) (a.put oi.dst v) w) : wpAnyM P md ops Q S K (fuel + 1) listed a w :=
  wpAnyM_first (T := S) hi (Region.noSelect_spec hs) hQ hik (fun l W hcl hrl hSl => hSl (by
    unfold NoK
    rw [List.all_eq_true]
    intro k hk
    cases hg : l.getD k false with
    | false => rfl
    | true =>
      exfalso
      have h0 := (mem_ready.1 hrl).1
      have h2 := listed_of_waits hcl _ _ _ (List.all_eq_true.1 hw k hk) hg
      rw [Array.getD_eq_getD_getElem?] at h0 h2
      cases hx : l[i]? with
      | none => rw [hx] at h2; simp at h2
      | some b => rw [hx] at h0 h2; simp at h0 h2; rw [h0] at h2; cases h2)) fuel listed a w hc (Region.free_spec hi hf) (by simpa using hr) hy hS (h (hc.step (by simpa using hr)))
/-- Number i, which reads nothing, is taken first. -/
theorem wpAnyM_takeP {i : Nat} {oi : Oper} {v : Value} {fuel : Nat} {listed : Array Bool} {a : Act} {w : World} (hi : ops[i]? = some oi)
    (hs : Region.noSelect ops = true) (hf : Region.free md ops listed i = true) (hr : (Region.ready md ops listed).contains i = true)
    (hQ : ∀ c a w, Q (.panic c) (a.put oi.dst v) w → Q (.panic c) a w) (hik : K.contains i = false) (hc : Closed md ops listed) (hy : YieldsIf P ops (fun _ => True) oi v a) (hS : NoK K listed = true → S w)
    (h : Closed md ops (listed.setIfInBounds i true) → wpAnyM P md ops Q S K fuel (listed.setIfInBounds i true) (a.put oi.dst v) w) : wpAnyM P md ops Q S K (fuel + 1) listed a w :=
  wpAnyM_first (T := fun _ => True) hi (Region.noSelect_spec hs) hQ hik (fun _ _ _ _ _ => trivial) fuel listed a w hc (Region.free_spec hi hf) (by simpa using hr) hy hS (h (hc.step (by simpa using hr)))
/-- The only one that may come up comes up; none of K has. -/
theorem wpAnyM_one {i : Nat} {oi : Oper} {fuel : Nat} {listed : Array Bool} {a : Act} {w : World} (hi : ops[i]? = some oi) (hr : Region.ready md ops listed = [i]) (hc : Closed md ops listed)
    (h : ∀ K' : Act → World → Prop, Shut (∀ a w, S w → (Closed md ops (listed.setIfInBounds i true) → S w → wpAnyM P md ops Q S K fuel (listed.setIfInBounds i true) a w) → K' a w) → if Region.wanted oi (yielded ops a.tmps) = true then Oper.wp P oi a w K' Q else K' (a.put oi.dst undef) w) :
    wpAnyM P md ops Q S K (fuel + 1) listed a w := by
  refine ⟨fun h0 => (by rw [hr] at h0; cases h0), fun j hj => ?_⟩
  rw [hr] at hj
  obtain rfl : j = i := by simpa using hj
  exact wpOp_step hi (fun K' hK => h K' (fun a w hS hW => hK a w ⟨fun _ => hS, hW (hc.step (by rw [hr]; simp)) hS⟩))
/-- The only one that may come up comes up; of K there is one that has. -/
theorem wpAnyM_end {i : Nat} {oi : Oper} {fuel : Nat} {listed : Array Bool} {a : Act} {w : World} (hi : ops[i]? = some oi) (hr : Region.ready md ops listed = [i]) (hn : NoK K (listed.setIfInBounds i true) = false) (hc : Closed md ops listed)
    (h : ∀ K' : Act → World → Prop, Shut (∀ a w, (Closed md ops (listed.setIfInBounds i true) → wpAnyM P md ops Q S K fuel (listed.setIfInBounds i true) a w) → K' a w) → if Region.wanted oi (yielded ops a.tmps) = true then Oper.wp P oi a w K' Q else K' (a.put oi.dst undef) w) :
    wpAnyM P md ops Q S K (fuel + 1) listed a w := by
  refine ⟨fun h0 => (by rw [hr] at h0; cases h0), fun j hj => ?_⟩
  rw [hr] at hj
  obtain rfl : j = i := by simpa using hj
  exact wpOp_step hi (fun K' hK => h K' (fun a w hW => hK a w ⟨fun h1 => (by rw [hn] at h1; cases h1), hW (hc.step (by rw [hr]; simp))⟩))
/-- Behind the last nothing comes up. -/
theorem wpAnyM_over {fuel : Nat} {listed : Array Bool} {a : Act} {w : World} (hd : Region.ready md ops listed = []) (hQ : Q .normal a w) : wpAnyM P md ops Q S K fuel listed a w := by
  cases fuel with
  | zero => exact ⟨hd, hQ⟩
  | succ n => exact ⟨fun _ => hQ, fun i hi => (by rw [hd] at hi; cases hi)⟩
/-- The beginning. -/
theorem wp_region_lastM {id : Nat} {a : Act} {w : World} (K : List Nat) (S : World → Prop) (hm : P.follows .mixedOrders = true) (hS : S w.drew)
    (h : S w.drew → Closed .any ops (Array.replicate ops.size false) → wpAnyM P .any ops Q S K ops.size (Array.replicate ops.size false) a w.drew) : (Code.region id ops true).wp P Q a w :=
  wp_region_any hm (wpAny_of_lastM _ _ _ _ (h hS Closed.start))
end
end Go.Proofs.YtimkgaokcldgkaaGreatDoor
/- A load of a whole struct out of a box, as one step. No program here. -/
namespace Go.Proofs.YtimkgaokcldgkaaGreatDoor
open Go Go.RowKit

theorem exec_load_box {P : Program} {w : World} {ev : Operand → Value} {o : Oper} {ty t : TypeId} {x : Operand} {g : Nat} {cs : Array Value} {d : TypeDesc} (ho : o.op = .load ty x) (hx : ev x = .pointer (some ⟨g, 0, none⟩)) (hb : Box w g cs t)
    (hu : P.underlying ty = some d) (hd : (match d with | .struct _ | .array _ _ => true | _ => false) = true) (hi : (P.info? ty).map (·.size) = some cs.size) :
    (execOp ev o).run P w = .ok (.value (.agg cs)) w := by
  unfold execOp
  simp only [ho, hx, Instr.loadAt, Instr.sureAddr, Sem.run_bind, Sem.run_pure, Result.andThen_ok, run_loadVar_row w g t ty cs (0, 0) d hb hu hd hi]

/-- A store of a whole struct into a box, at a step of a region that draws. -/
theorem step_store_row {P : Program} {ops : Array Oper} {o : Oper} {act : Act} {K : Act → World → Prop} {Q : Exit → Act → World → Prop} {E : Prop} {w : World} (hgd : o.guard = none) {ty : TypeId} {x y : Operand} (ho : o.op = .store ty x y)
    {g : Nat} {cells cs : Array Value} {t : TypeId} (hx : act.eval x = .pointer (some ⟨g, 0, none⟩)) (hy : act.eval y = .agg cells) (hb : Box w g cs t) (hn : cs.size = cells.size) (hi : cellsFor P ty = some cells.size) (h1 : cells.all (·.oneCell') = true)
    (h : K (act.put o.dst undef) (w.setRow g cells)) : if Region.wanted o (yielded ops act.tmps) = true then Oper.wp P o act w K Q else E := by
  have hw : Region.wanted o (yielded ops act.tmps) = true := by simp [Region.wanted, hgd]
  rw [if_pos hw]
  have hs := storeAt_row (P := P) (w := w) (g := g) (ty := ty) (cells := cells) (hn ▸ hb.room) hi h1
  unfold Oper.wp execOp
  simp only [ho, hx, hy, Sem.run_bind, Sem.run_pure, hs, Result.andThen_ok]
  exact h
end Go.Proofs.YtimkgaokcldgkaaGreatDoor
/- The shelf's contracts at this translation: the tables of numbers, by name; each body compared by the kernel. -/
namespace Go.Proofs
open Go.Shelf
def Tryz.keysA_ren : Go.Shelf.Ren := ⟨fun | 7 => 41 | 10 => 63 | n => n, fun | 23 => 67 | 26 => 3 | 3 => 55 | 28 => 98 | 0 => 0 | 27 => 97 | 33 => 45 | 4 => 4 | n => n, fun | n => n⟩
theorem Tryz.keysA : Go.Proofs.SlLaysZI.n7 Tryz.prog Tryz.keysA_ren := {
  mixed := by kernel_rfl
  f7 := ⟨Tryz.f41.name, by decide, Tryz.func41.trans (congrArg some (by kernel_rfl))⟩
  f10 := ⟨Tryz.f63.name, by decide, Tryz.func63.trans (congrArg some (by kernel_rfl))⟩
  t0 := Tryz.underlying0
  a0 := Tryz.isAgg0
  z0 := Tryz.sizeOf0
  v0 := Tryz.zeroValue0
  t4 := Tryz.underlying4
  a4 := Tryz.isAgg4
  z4 := Tryz.sizeOf4
  v4 := Tryz.zeroValue4
  t23 := Tryz.underlying67
  a23 := Tryz.isAgg67
  z23 := Tryz.sizeOf67
  v23 := Tryz.zeroValue67
  t26 := Tryz.underlying3
  a26 := Tryz.isAgg3
  z26 := Tryz.sizeOf3
  v26 := Tryz.zeroValue3
  t27 := Tryz.underlying97
  a27 := Tryz.isAgg97
  z27 := Tryz.sizeOf97
  v27 := Tryz.zeroValue97
  t28 := Tryz.underlying98
  a28 := Tryz.isAgg98
  z28 := Tryz.sizeOf98
  v28 := Tryz.zeroValue98
  t33 := Tryz.underlying45
  a33 := Tryz.isAgg45
  z33 := Tryz.sizeOf45
  v33 := Tryz.zeroValue45 }
def Tryz.sortedA_ren : Go.Shelf.Ren := ⟨fun | 6 => 40 | 8 => 61 | 9 => 62 | 11 => 77 | 13 => 79 | 12 => 78 | 23 => 103 | 24 => 104 | 14 => 94 | 15 => 95 | 16 => 96 | 17 => 97 | 18 => 98 | 19 => 99 | 20 => 100 | 21 => 101 | 22 => 102 | 25 => 113 | 26 => 114 | 27 => 115 | 28 => 116 | 29 => 117 | 30 => 112 | 31 => 121 | n => n, fun | 26 => 3 | 28 => 98 | 24 => 63 | 0 => 0 | 3 => 3 | 37 => 126 | 48 => 102 | 50 => 172 | 4 => 4 | 40 => 164 | 39 => 163 | 45 => 42 | 5 => 5 | 9 => 9 | 51 => 180 | 55 => 184 | 57 => 188 | 58 => 189 | 33 => 45 | n => n, fun | n => n⟩
theorem Tryz.sortedA : Go.Proofs.SlLaysZI.n6 Tryz.prog Tryz.sortedA_ren := {
  mixed := by kernel_rfl
  f6 := ⟨Tryz.f40.name, by decide, Tryz.func40.trans (congrArg some (by kernel_rfl))⟩
  f8 := ⟨Tryz.f61.name, by decide, Tryz.func61.trans (congrArg some (by kernel_rfl))⟩
  f11 := ⟨Tryz.f77.name, by decide, Tryz.func77.trans (congrArg some (by kernel_rfl))⟩
  t0 := Tryz.underlying0
  a0 := Tryz.isAgg0
  z0 := Tryz.sizeOf0
  v0 := Tryz.zeroValue0
  t24 := Tryz.underlying63
  a24 := Tryz.isAgg63
  z24 := Tryz.sizeOf63
  v24 := Tryz.zeroValue63
  t26 := Tryz.underlying3
  a26 := Tryz.isAgg3
  z26 := Tryz.sizeOf3
  v26 := Tryz.zeroValue3
  t28 := Tryz.underlying98
  a28 := Tryz.isAgg98
  z28 := Tryz.sizeOf98
  v28 := Tryz.zeroValue98
  i26 := by kernel_rfl }
def Tryz.sortA_ren : Go.Shelf.Ren := ⟨fun | 5 => 62 | 8 => 79 | 7 => 78 | 19 => 103 | 20 => 104 | 10 => 94 | 11 => 95 | 12 => 96 | 13 => 97 | 14 => 98 | 15 => 99 | 16 => 100 | 17 => 101 | 18 => 102 | 30 => 113 | 31 => 114 | 32 => 115 | 33 => 116 | 34 => 117 | 35 => 112 | 40 => 121 | n => n, fun | 23 => 63 | 25 => 3 | 3 => 3 | 32 => 126 | 22 => 63 | 0 => 0 | 44 => 102 | 46 => 172 | 4 => 4 | 36 => 164 | 35 => 163 | 41 => 42 | 5 => 5 | 9 => 9 | 53 => 180 | 57 => 184 | 63 => 188 | 64 => 189 | n => n, fun | n => n⟩
theorem Tryz.sortA : Go.Proofs.SlLaysM.n5 Tryz.prog Tryz.sortA_ren := {
  mixed := by kernel_rfl
  f5 := ⟨Tryz.f62.name, by decide, Tryz.func62.trans (congrArg some (by kernel_rfl))⟩
  f7 := ⟨Tryz.f78.name, by decide, Tryz.func78.trans (congrArg some (by kernel_rfl))⟩
  f8 := Tryz.func79.trans (congrArg some (by kernel_rfl))
  f10 := ⟨Tryz.f94.name, by decide, Tryz.func94.trans (congrArg some (by kernel_rfl))⟩
  f11 := ⟨Tryz.f95.name, by decide, Tryz.func95.trans (congrArg some (by kernel_rfl))⟩
  f12 := ⟨Tryz.f96.name, by decide, Tryz.func96.trans (congrArg some (by kernel_rfl))⟩
  f13 := ⟨Tryz.f97.name, by decide, Tryz.func97.trans (congrArg some (by kernel_rfl))⟩
  f14 := ⟨Tryz.f98.name, by decide, Tryz.func98.trans (congrArg some (by kernel_rfl))⟩
  f15 := ⟨Tryz.f99.name, by decide, Tryz.func99.trans (congrArg some (by kernel_rfl))⟩
  f16 := ⟨Tryz.f100.name, by decide, Tryz.func100.trans (congrArg some (by kernel_rfl))⟩
  f17 := ⟨Tryz.f101.name, by decide, Tryz.func101.trans (congrArg some (by kernel_rfl))⟩
  f18 := ⟨Tryz.f102.name, by decide, Tryz.func102.trans (congrArg some (by kernel_rfl))⟩
  f19 := Tryz.func103.trans (congrArg some (by kernel_rfl))
  f20 := Tryz.func104.trans (congrArg some (by kernel_rfl))
  f30 := ⟨Tryz.f113.name, by decide, Tryz.func113.trans (congrArg some (by kernel_rfl))⟩
  f31 := Tryz.func114.trans (congrArg some (by kernel_rfl))
  f32 := Tryz.func115.trans (congrArg some (by kernel_rfl))
  f33 := ⟨Tryz.f116.name, by decide, Tryz.func116.trans (congrArg some (by kernel_rfl))⟩
  f34 := ⟨Tryz.f117.name, by decide, Tryz.func117.trans (congrArg some (by kernel_rfl))⟩
  f35 := ⟨Tryz.f112.name, by decide, Tryz.func112.trans (congrArg some (by kernel_rfl))⟩
  f40 := ⟨Tryz.f121.name, by decide, Tryz.func121.trans (congrArg some (by kernel_rfl))⟩
  t0 := Tryz.underlying0
  a0 := Tryz.isAgg0
  z0 := Tryz.sizeOf0
  v0 := Tryz.zeroValue0
  t3 := Tryz.underlying3
  a3 := Tryz.isAgg3
  z3 := Tryz.sizeOf3
  v3 := Tryz.zeroValue3
  t4 := Tryz.underlying4
  a4 := Tryz.isAgg4
  z4 := Tryz.sizeOf4
  v4 := Tryz.zeroValue4
  t5 := Tryz.underlying5
  a5 := Tryz.isAgg5
  z5 := Tryz.sizeOf5
  v5 := Tryz.zeroValue5
  t9 := Tryz.underlying9
  a9 := Tryz.isAgg9
  z9 := Tryz.sizeOf9
  v9 := Tryz.zeroValue9
  t22 := Tryz.underlying63
  a22 := Tryz.isAgg63
  z22 := Tryz.sizeOf63
  v22 := Tryz.zeroValue63
  t23 := Tryz.underlying63
  a23 := Tryz.isAgg63
  z23 := Tryz.sizeOf63
  v23 := Tryz.zeroValue63
  t25 := Tryz.underlying3
  a25 := Tryz.isAgg3
  z25 := Tryz.sizeOf3
  v25 := Tryz.zeroValue3
  t32 := Tryz.underlying126
  a32 := Tryz.isAgg126
  z32 := Tryz.sizeOf126
  v32 := Tryz.zeroValue126
  t35 := Tryz.underlying163
  a35 := Tryz.isAgg163
  z35 := Tryz.sizeOf163
  v35 := Tryz.zeroValue163
  t36 := Tryz.underlying164
  a36 := Tryz.isAgg164
  z36 := Tryz.sizeOf164
  v36 := Tryz.zeroValue164
  t41 := Tryz.underlying42
  a41 := Tryz.isAgg42
  z41 := Tryz.sizeOf42
  v41 := Tryz.zeroValue42
  t44 := Tryz.underlying102
  a44 := Tryz.isAgg102
  z44 := Tryz.sizeOf102
  v44 := Tryz.zeroValue102
  t46 := Tryz.underlying172
  a46 := Tryz.isAgg172
  z46 := Tryz.sizeOf172
  v46 := Tryz.zeroValue172
  t53 := Tryz.underlying180
  a53 := Tryz.isAgg180
  z53 := Tryz.sizeOf180
  v53 := Tryz.zeroValue180
  t57 := Tryz.underlying184
  a57 := Tryz.isAgg184
  z57 := Tryz.sizeOf184
  v57 := Tryz.zeroValue184
  t63 := Tryz.underlying188
  a63 := Tryz.isAgg188
  z63 := Tryz.sizeOf188
  v63 := Tryz.zeroValue188
  t64 := Tryz.underlying189
  a64 := Tryz.isAgg189
  z64 := Tryz.sizeOf189
  v64 := Tryz.zeroValue189 }
end Go.Proofs
/- The shelf's contracts at this translation: the tables of numbers, by name; each body compared by the kernel. -/
namespace Go.Proofs
open Go.Shelf
def Tryz.sortS_ren : Go.Shelf.Ren := ⟨fun | 6 => 105 | 8 => 79 | 9 => 118 | 19 => 103 | 20 => 104 | 21 => 122 | 22 => 123 | 23 => 124 | 24 => 125 | 25 => 126 | 26 => 127 | 27 => 128 | 28 => 129 | 29 => 130 | 36 => 134 | 31 => 114 | 32 => 115 | 37 => 135 | 38 => 136 | 39 => 137 | 41 => 139 | n => n, fun | 27 => 54 | 29 => 9 | 3 => 3 | 32 => 126 | 26 => 54 | 0 => 0 | 44 => 102 | 46 => 172 | 4 => 4 | 36 => 164 | 35 => 163 | 41 => 42 | 5 => 5 | 9 => 9 | 53 => 180 | 57 => 184 | 63 => 188 | 64 => 189 | n => n, fun | n => n⟩
theorem Tryz.sortS : Go.Proofs.SlLaysM.n6 Tryz.prog Tryz.sortS_ren := {
  mixed := by kernel_rfl
  f6 := ⟨Tryz.f105.name, by decide, Tryz.func105.trans (congrArg some (by kernel_rfl))⟩
  f8 := Tryz.func79.trans (congrArg some (by kernel_rfl))
  f9 := ⟨Tryz.f118.name, by decide, Tryz.func118.trans (congrArg some (by kernel_rfl))⟩
  f19 := Tryz.func103.trans (congrArg some (by kernel_rfl))
  f20 := Tryz.func104.trans (congrArg some (by kernel_rfl))
  f21 := ⟨Tryz.f122.name, by decide, Tryz.func122.trans (congrArg some (by kernel_rfl))⟩
  f22 := ⟨Tryz.f123.name, by decide, Tryz.func123.trans (congrArg some (by kernel_rfl))⟩
  f23 := ⟨Tryz.f124.name, by decide, Tryz.func124.trans (congrArg some (by kernel_rfl))⟩
  f24 := ⟨Tryz.f125.name, by decide, Tryz.func125.trans (congrArg some (by kernel_rfl))⟩
  f25 := ⟨Tryz.f126.name, by decide, Tryz.func126.trans (congrArg some (by kernel_rfl))⟩
  f26 := ⟨Tryz.f127.name, by decide, Tryz.func127.trans (congrArg some (by kernel_rfl))⟩
  f27 := ⟨Tryz.f128.name, by decide, Tryz.func128.trans (congrArg some (by kernel_rfl))⟩
  f28 := ⟨Tryz.f129.name, by decide, Tryz.func129.trans (congrArg some (by kernel_rfl))⟩
  f29 := ⟨Tryz.f130.name, by decide, Tryz.func130.trans (congrArg some (by kernel_rfl))⟩
  f31 := Tryz.func114.trans (congrArg some (by kernel_rfl))
  f32 := Tryz.func115.trans (congrArg some (by kernel_rfl))
  f36 := ⟨Tryz.f134.name, by decide, Tryz.func134.trans (congrArg some (by kernel_rfl))⟩
  f37 := ⟨Tryz.f135.name, by decide, Tryz.func135.trans (congrArg some (by kernel_rfl))⟩
  f38 := ⟨Tryz.f136.name, by decide, Tryz.func136.trans (congrArg some (by kernel_rfl))⟩
  f39 := ⟨Tryz.f137.name, by decide, Tryz.func137.trans (congrArg some (by kernel_rfl))⟩
  f41 := ⟨Tryz.f139.name, by decide, Tryz.func139.trans (congrArg some (by kernel_rfl))⟩
  t0 := Tryz.underlying0
  a0 := Tryz.isAgg0
  z0 := Tryz.sizeOf0
  v0 := Tryz.zeroValue0
  t3 := Tryz.underlying3
  a3 := Tryz.isAgg3
  z3 := Tryz.sizeOf3
  v3 := Tryz.zeroValue3
  t4 := Tryz.underlying4
  a4 := Tryz.isAgg4
  z4 := Tryz.sizeOf4
  v4 := Tryz.zeroValue4
  t5 := Tryz.underlying5
  a5 := Tryz.isAgg5
  z5 := Tryz.sizeOf5
  v5 := Tryz.zeroValue5
  t9 := Tryz.underlying9
  a9 := Tryz.isAgg9
  z9 := Tryz.sizeOf9
  v9 := Tryz.zeroValue9
  t26 := Tryz.underlying54
  a26 := Tryz.isAgg54
  z26 := Tryz.sizeOf54
  v26 := Tryz.zeroValue54
  t27 := Tryz.underlying54
  a27 := Tryz.isAgg54
  z27 := Tryz.sizeOf54
  v27 := Tryz.zeroValue54
  t29 := Tryz.underlying9
  a29 := Tryz.isAgg9
  z29 := Tryz.sizeOf9
  v29 := Tryz.zeroValue9
  t32 := Tryz.underlying126
  a32 := Tryz.isAgg126
  z32 := Tryz.sizeOf126
  v32 := Tryz.zeroValue126
  t35 := Tryz.underlying163
  a35 := Tryz.isAgg163
  z35 := Tryz.sizeOf163
  v35 := Tryz.zeroValue163
  t36 := Tryz.underlying164
  a36 := Tryz.isAgg164
  z36 := Tryz.sizeOf164
  v36 := Tryz.zeroValue164
  t41 := Tryz.underlying42
  a41 := Tryz.isAgg42
  z41 := Tryz.sizeOf42
  v41 := Tryz.zeroValue42
  t44 := Tryz.underlying102
  a44 := Tryz.isAgg102
  z44 := Tryz.sizeOf102
  v44 := Tryz.zeroValue102
  t46 := Tryz.underlying172
  a46 := Tryz.isAgg172
  z46 := Tryz.sizeOf172
  v46 := Tryz.zeroValue172
  t53 := Tryz.underlying180
  a53 := Tryz.isAgg180
  z53 := Tryz.sizeOf180
  v53 := Tryz.zeroValue180
  t57 := Tryz.underlying184
  a57 := Tryz.isAgg184
  z57 := Tryz.sizeOf184
  v57 := Tryz.zeroValue184
  t63 := Tryz.underlying188
  a63 := Tryz.isAgg188
  z63 := Tryz.sizeOf188
  v63 := Tryz.zeroValue188
  t64 := Tryz.underlying189
  a64 := Tryz.isAgg189
  z64 := Tryz.sizeOf189
  v64 := Tryz.zeroValue189 }
end Go.Proofs
/- slices.SortStableFunc, told by arrays: blocks by insertion, then merges by rotation: what stays, and that elements may be renamed. No program here. -/
namespace Go.Proofs.YtimkgaokcldgkaaGreatDoor
open Go Go.Sort
set_option linter.unusedVariables false
set_option linter.unusedSimpArgs false

section
variable {α β : Type} [Inhabited α] [Inhabited β]
/-- Where a search by halves ends. -/
def bsR (p : Nat → Bool) (i j : Nat) : Nat :=
  if i < j then (if p ((i + j) / 2) = true then bsR p ((i + j) / 2 + 1) j else bsR p i ((i + j) / 2)) else i
termination_by j - i
theorem bsR_go {p : Nat → Bool} {i j : Nat} (h : i < j) : bsR p i j = if p ((i + j) / 2) = true then bsR p ((i + j) / 2 + 1) j else bsR p i ((i + j) / 2) := by rw [bsR, if_pos h]
theorem bsR_end {p : Nat → Bool} {i j : Nat} (h : ¬ i < j) : bsR p i j = i := by rw [bsR, if_neg h]
theorem bsR_in (p : Nat → Bool) : ∀ (n i j : Nat), j - i ≤ n → i ≤ j → i ≤ bsR p i j ∧ bsR p i j ≤ j
  | 0, i, j, h, hij => by rw [bsR_end (by omega)]; omega
  | n + 1, i, j, h, hij => by
    by_cases hlt : i < j
    · rw [bsR_go hlt]
      split
      · have := bsR_in p n ((i + j) / 2 + 1) j (by omega) (by omega)
        omega
      · have := bsR_in p n i ((i + j) / 2) (by omega) (by omega)
        omega
    · rw [bsR_end hlt]; omega
def upS (d : Array α) (k e : Nat) : Array α := if k < e then upS (swp d k (k + 1)) (k + 1) e else d
termination_by e - k
theorem upS_go {d : Array α} {k e : Nat} (h : k < e) : upS d k e = upS (swp d k (k + 1)) (k + 1) e := by rw [upS, if_pos h]
theorem upS_end {d : Array α} {k e : Nat} (h : ¬ k < e) : upS d k e = d := by rw [upS, if_neg h]
def dnS (e : Nat) : Nat → Array α → Array α
  | 0, d => d
  | k + 1, d => if e < k + 1 then dnS e k (swp d (k + 1) k) else d
def swr (x y n : Nat) (d : Array α) (i : Nat) : Array α := if i < n then swr x y n (swp d (x + i) (y + i)) (i + 1) else d
termination_by n - i
theorem swr_go {x y n : Nat} {d : Array α} {i : Nat} (h : i < n) : swr x y n d i = swr x y n (swp d (x + i) (y + i)) (i + 1) := by rw [swr, if_pos h]
theorem swr_end {x y n : Nat} {d : Array α} {i : Nat} (h : ¬ i < n) : swr x y n d i = d := by rw [swr, if_neg h]
def rot (m : Nat) (d : Array α) (i j : Nat) : Array α :=
  if i = j then swr (m - i) m i d 0
  else if j < i ∧ 0 < j then rot m (swr (m - i) m j d 0) (i - j) j
  else if i < j ∧ 0 < i then rot m (swr (m - i) (m + j - i) i d 0) i (j - i)
  else d
termination_by i + j
theorem rot_eq {m : Nat} {d : Array α} {i j : Nat} (h : i = j) : rot m d i j = swr (m - i) m i d 0 := by rw [rot, if_pos h]
theorem rot_gt {m : Nat} {d : Array α} {i j : Nat} (h : j < i) (h0 : 0 < j) : rot m d i j = rot m (swr (m - i) m j d 0) (i - j) j := by rw [rot, if_neg (by omega), if_pos ⟨h, h0⟩]
theorem rot_lt {m : Nat} {d : Array α} {i j : Nat} (h : i < j) (h0 : 0 < i) : rot m d i j = rot m (swr (m - i) (m + j - i) i d 0) i (j - i) := by rw [rot, if_neg (by omega), if_neg (by omega), if_pos ⟨h, h0⟩]
section
variable (lt : α → α → Bool)
def symS (d : Array α) (a m b : Nat) : Nat := bsR (fun c => !lt d[(a + b) / 2 + m - 1 - c]! d[c]!) (if (a + b) / 2 < m then (a + b) / 2 + m - b else a) (if (a + b) / 2 < m then (a + b) / 2 else m)
def sym1 (d : Array α) (a m b : Nat) : Array α := if symS lt d a m b < m ∧ m < (a + b) / 2 + m - symS lt d a m b then rot m d (m - symS lt d a m b) ((a + b) / 2 + m - symS lt d a m b - m) else d
def sym : Nat → Array α → Nat → Nat → Nat → Array α
  | 0, d, _, _, _ => d
  | f + 1, d, a, m, b =>
    if m - a = 1 then upS d a (bsR (fun h => lt d[h]! d[a]!) m b - 1)
    else if b - m = 1 then dnS (bsR (fun h => !lt d[m]! d[h]!) a m) m d
    else
      if (a + b) / 2 < (a + b) / 2 + m - symS lt d a m b ∧ (a + b) / 2 + m - symS lt d a m b < b then
        sym f (if a < symS lt d a m b ∧ symS lt d a m b < (a + b) / 2 then sym f (sym1 lt d a m b) a (symS lt d a m b) ((a + b) / 2) else sym1 lt d a m b) ((a + b) / 2) ((a + b) / 2 + m - symS lt d a m b) b
      else (if a < symS lt d a m b ∧ symS lt d a m b < (a + b) / 2 then sym f (sym1 lt d a m b) a (symS lt d a m b) ((a + b) / 2) else sym1 lt d a m b)
def blkS (n : Nat) (d : Array α) (a : Nat) : Array α := if a + 20 ≤ n then blkS n (insertionSort lt d a (a + 20)) (a + 20) else insertionSort lt d a n
termination_by n - a
def pasS (n s : Nat) (d : Array α) (a : Nat) : Array α :=
  if a + 2 * s ≤ n ∧ 0 < s then pasS n s (sym lt n d a (a + s) (a + 2 * s)) (a + 2 * s) else if a + s < n then sym lt n d a (a + s) n else d
termination_by n - a
def outS (n : Nat) (d : Array α) (s : Nat) : Array α := if s < n ∧ 0 < s then outS n (pasS lt n s d 0) (2 * s) else d
termination_by n - s
def stabS (d : Array α) : Array α := outS lt d.size (blkS lt d.size d 0) 20
end
/-! Nothing is lost. -/
def Pm (d d' : Array α) : Prop := d'.toList.Perm d.toList
omit [Inhabited α] in
theorem Pm.refl (d : Array α) : Pm d d := List.Perm.refl _
omit [Inhabited α] in
theorem Pm.trans {a b c : Array α} (h : Pm a b) (k : Pm b c) : Pm a c := List.Perm.trans k h
omit [Inhabited α] in
theorem Pm.size {a b : Array α} (h : Pm a b) : b.size = a.size := by simpa using h.length_eq
theorem pm_swp (d : Array α) {i j : Nat} (hi : i < d.size) (hj : j < d.size) : Pm d (swp d i j) := by
  have e : swp d i j = d.swap i j hi hj := by
    unfold swp
    rw [Array.swap_def, getElem!_pos d i hi, getElem!_pos d j hj, Array.setIfInBounds_def, Array.setIfInBounds_def]
    simp [hi, hj]
  rw [e]
  exact (Array.swap_perm hi hj).toList
theorem pm_upS : ∀ (n : Nat) (d : Array α) (k e : Nat), e - k ≤ n → (k < e → e < d.size) → Pm d (upS d k e)
  | 0, d, k, e, h, _ => by rw [upS_end (by omega)]; exact Pm.refl _
  | n + 1, d, k, e, h, hb => by
    by_cases hlt : k < e
    · rw [upS_go hlt]
      have h1 := pm_swp d (i := k) (j := k + 1) (by have := hb hlt; omega) (by have := hb hlt; omega)
      exact h1.trans (pm_upS n _ _ _ (by omega) (fun _ => by rw [h1.size]; exact hb hlt))
    · rw [upS_end hlt]; exact Pm.refl _
theorem pm_dnS (e : Nat) : ∀ (k : Nat) (d : Array α), k < d.size → Pm d (dnS e k d)
  | 0, d, _ => Pm.refl _
  | k + 1, d, h => by
    unfold dnS
    split
    · have h1 := pm_swp d (i := k + 1) (j := k) h (by omega)
      exact h1.trans (pm_dnS e k _ (by rw [h1.size]; omega))
    · exact Pm.refl _
theorem pm_swr (x y n : Nat) : ∀ (c : Nat) (d : Array α) (i : Nat), n - i ≤ c → x + n ≤ d.size → y + n ≤ d.size → Pm d (swr x y n d i)
  | 0, d, i, h, _, _ => by rw [swr_end (by omega)]; exact Pm.refl _
  | c + 1, d, i, h, hx, hy => by
    by_cases hlt : i < n
    · rw [swr_go hlt]
      have h1 := pm_swp d (i := x + i) (j := y + i) (by omega) (by omega)
      exact h1.trans (pm_swr x y n c _ _ (by omega) (by rw [h1.size]; exact hx) (by rw [h1.size]; exact hy))
    · rw [swr_end hlt]; exact Pm.refl _
theorem pm_rot (m : Nat) : ∀ (c : Nat) (d : Array α) (i j : Nat), i + j ≤ c → i ≤ m → m + j ≤ d.size → Pm d (rot m d i j)
  | 0, d, i, j, h, _, _ => by
    obtain rfl : i = 0 := by omega
    obtain rfl : j = 0 := by omega
    rw [rot_eq rfl, swr_end (by omega)]
    exact Pm.refl _
  | c + 1, d, i, j, h, hi, hj => by
    by_cases h1 : i = j
    · rw [rot_eq h1]
      exact pm_swr _ _ _ _ _ _ (Nat.le_refl _) (by omega) (by omega)
    · by_cases h2 : j < i ∧ 0 < j
      · rw [rot_gt h2.1 h2.2]
        have h3 := pm_swr (m - i) m j j d 0 (by omega) (by omega) (by omega)
        exact h3.trans (pm_rot m c _ _ _ (by omega) (by omega) (by rw [h3.size]; omega))
      · by_cases h4 : i < j ∧ 0 < i
        · rw [rot_lt h4.1 h4.2]
          have h3 := pm_swr (m - i) (m + j - i) i i d 0 (by omega) (by omega) (by omega)
          exact h3.trans (pm_rot m c _ _ _ (by omega) (by omega) (by rw [h3.size]; omega))
        · rw [rot, if_neg h1, if_neg h2, if_neg h4]
          exact Pm.refl _
/-- The ends of a merge's search. -/
theorem symS_in (lt : α → α → Bool) (d : Array α) {a m b : Nat} (h1 : a < m) (h2 : m < b) : a ≤ symS lt d a m b ∧ symS lt d a m b ≤ m ∧ symS lt d a m b ≤ (a + b) / 2 ∧ (a + b) / 2 + m - symS lt d a m b ≤ b := by
  unfold symS
  split
  · have := bsR_in (fun c => !lt d[(a + b) / 2 + m - 1 - c]! d[c]!) _ ((a + b) / 2 + m - b) ((a + b) / 2) (Nat.le_refl _) (by omega)
    omega
  · have := bsR_in (fun c => !lt d[(a + b) / 2 + m - 1 - c]! d[c]!) _ a m (Nat.le_refl _) (by omega)
    omega
theorem pm_sym1 (lt : α → α → Bool) (d : Array α) {a m b : Nat} (h1 : a < m) (h2 : m < b) (h3 : b ≤ d.size) : Pm d (sym1 lt d a m b) := by
  have := symS_in lt d h1 h2
  unfold sym1
  split
  · exact pm_rot m _ d _ _ (Nat.le_refl _) (by omega) (by omega)
  · exact Pm.refl _
theorem pm_sym (lt : α → α → Bool) : ∀ (f : Nat) (d : Array α) (a m b : Nat), a < m → m < b → b ≤ d.size → Pm d (sym lt f d a m b)
  | 0, d, a, m, b, _, _, _ => Pm.refl _
  | f + 1, d, a, m, b, h1, h2, h3 => by
    unfold sym
    split
    · have := bsR_in (fun h => lt d[h]! d[a]!) _ m b (Nat.le_refl _) (by omega)
      exact pm_upS _ _ _ _ (Nat.le_refl _) (fun _ => by omega)
    · split
      · exact pm_dnS _ _ _ (by omega)
      · have hs := symS_in lt d h1 h2
        have p1 := pm_sym1 lt d h1 h2 h3
        have p2 : Pm d (if a < symS lt d a m b ∧ symS lt d a m b < (a + b) / 2 then sym lt f (sym1 lt d a m b) a (symS lt d a m b) ((a + b) / 2) else sym1 lt d a m b) := by
          split
          · rename_i hc
            exact p1.trans (pm_sym lt f _ _ _ _ hc.1 hc.2 (by rw [p1.size]; omega))
          · exact p1
        split
        · rename_i hc
          exact p2.trans (pm_sym lt f _ _ _ _ hc.1 hc.2 (by rw [p2.size]; omega))
        · exact p2
theorem pm_insI (lt : α → α → Bool) (a : Nat) : ∀ (j : Nat) (d : Array α), j < d.size → Pm d (insInner lt a j d)
  | 0, d, _ => Pm.refl _
  | j + 1, d, h => by
    unfold insInner
    split
    · have h1 := pm_swp d (i := j + 1) (j := j) h (by omega)
      exact h1.trans (pm_insI lt a j _ (by rw [h1.size]; omega))
    · exact Pm.refl _
theorem pm_insO (lt : α → α → Bool) (a b : Nat) : ∀ (n i : Nat) (d : Array α), b - i ≤ n → b ≤ d.size → Pm d (insOuter lt a b i d)
  | 0, i, d, h, _ => by rw [insOuter, if_neg (by omega)]; exact Pm.refl _
  | n + 1, i, d, h, hb => by
    rw [insOuter]
    split
    · have h1 := pm_insI lt a i d (by omega)
      exact h1.trans (pm_insO lt a b n (i + 1) _ (by omega) (by rw [h1.size]; exact hb))
    · exact Pm.refl _
theorem pm_ins (lt : α → α → Bool) (d : Array α) (a b : Nat) (hb : b ≤ d.size) : Pm d (insertionSort lt d a b) := pm_insO lt a b _ _ d (Nat.le_refl _) hb
theorem pm_blkS (lt : α → α → Bool) (n : Nat) : ∀ (c : Nat) (d : Array α) (a : Nat), n - a ≤ c → n ≤ d.size → Pm d (blkS lt n d a)
  | 0, d, a, h, hb => by rw [blkS, if_neg (by omega)]; exact pm_ins lt d a n hb
  | c + 1, d, a, h, hb => by
    rw [blkS]
    split
    · have h1 := pm_ins lt d a (a + 20) (by omega)
      exact h1.trans (pm_blkS lt n c _ _ (by omega) (by rw [h1.size]; exact hb))
    · exact pm_ins lt d a n hb
theorem pm_pasS (lt : α → α → Bool) (n s : Nat) : ∀ (c : Nat) (d : Array α) (a : Nat), n - a ≤ c → n ≤ d.size → 0 < s → Pm d (pasS lt n s d a)
  | 0, d, a, h, hb, hs => by rw [pasS, if_neg (by omega), if_neg (by omega)]; exact Pm.refl _
  | c + 1, d, a, h, hb, hs => by
    rw [pasS]
    split
    · have h1 := pm_sym lt n d a (a + s) (a + 2 * s) (by omega) (by omega) (by omega)
      exact h1.trans (pm_pasS lt n s c _ _ (by omega) (by rw [h1.size]; exact hb) hs)
    · split
      · exact pm_sym lt n d a (a + s) n (by omega) (by omega) hb
      · exact Pm.refl _
theorem pm_outS (lt : α → α → Bool) (n : Nat) : ∀ (c : Nat) (d : Array α) (s : Nat), n - s ≤ c → n ≤ d.size → Pm d (outS lt n d s)
  | 0, d, s, h, hb => by rw [outS, if_neg (by omega)]; exact Pm.refl _
  | c + 1, d, s, h, hb => by
    rw [outS]
    split
    · rename_i hc
      have h1 := pm_pasS lt n s _ d 0 (Nat.le_refl _) hb hc.2
      exact h1.trans (pm_outS lt n c _ _ (by omega) (by rw [h1.size]; exact hb))
    · exact Pm.refl _
theorem pm_stabS (lt : α → α → Bool) (d : Array α) : Pm d (stabS lt d) := by
  unfold stabS
  have h1 := pm_blkS lt d.size _ d 0 (Nat.le_refl _) (Nat.le_refl _)
  exact h1.trans (pm_outS lt d.size _ _ _ (Nat.le_refl _) (by rw [h1.size]; exact Nat.le_refl _))
/-! Elements may be renamed. -/
section
variable (f : α → β) (hf : f default = default) (lt : β → β → Bool)
include hf
theorem mp_get (d : Array α) (i : Nat) : (d.map f)[i]! = f d[i]! := by
  by_cases h : i < d.size
  · rw [getElem!_pos d i h, getElem!_pos (d.map f) i (by simpa using h), Array.getElem_map]
  · rw [getElem!_neg d i h, getElem!_neg (d.map f) i (by simpa using h), hf]
theorem mp_swp (d : Array α) (i j : Nat) : swp (d.map f) i j = (swp d i j).map f := by
  unfold swp
  rw [mp_get f hf, mp_get f hf]
  simp
theorem mp_upS : ∀ (n : Nat) (d : Array α) (k e : Nat), e - k ≤ n → upS (d.map f) k e = (upS d k e).map f
  | 0, d, k, e, h => by rw [upS_end (by omega), upS_end (by omega)]
  | n + 1, d, k, e, h => by
    by_cases hlt : k < e
    · rw [upS_go hlt, upS_go hlt, mp_swp f hf, mp_upS n _ _ _ (by omega)]
    · rw [upS_end hlt, upS_end hlt]
theorem mp_dnS (e : Nat) : ∀ (k : Nat) (d : Array α), dnS e k (d.map f) = (dnS e k d).map f
  | 0, d => rfl
  | k + 1, d => by
    unfold dnS
    split
    · rw [mp_swp f hf, mp_dnS e k]
    · rfl
theorem mp_swr (x y n : Nat) : ∀ (c : Nat) (d : Array α) (i : Nat), n - i ≤ c → swr x y n (d.map f) i = (swr x y n d i).map f
  | 0, d, i, h => by rw [swr_end (by omega), swr_end (by omega)]
  | c + 1, d, i, h => by
    by_cases hlt : i < n
    · rw [swr_go hlt, swr_go hlt, mp_swp f hf, mp_swr x y n c _ _ (by omega)]
    · rw [swr_end hlt, swr_end hlt]
theorem mp_rot (m : Nat) : ∀ (c : Nat) (d : Array α) (i j : Nat), i + j ≤ c → rot m (d.map f) i j = (rot m d i j).map f
  | 0, d, i, j, h => by
    obtain rfl : i = 0 := by omega
    obtain rfl : j = 0 := by omega
    rw [rot_eq rfl, rot_eq rfl, mp_swr f hf _ _ _ _ _ _ (Nat.le_refl _)]
  | c + 1, d, i, j, h => by
    by_cases h1 : i = j
    · rw [rot_eq h1, rot_eq h1, mp_swr f hf _ _ _ _ _ _ (Nat.le_refl _)]
    · by_cases h2 : j < i ∧ 0 < j
      · rw [rot_gt h2.1 h2.2, rot_gt h2.1 h2.2, mp_swr f hf _ _ _ _ _ _ (Nat.le_refl _), mp_rot m c _ _ _ (by omega)]
      · by_cases h4 : i < j ∧ 0 < i
        · rw [rot_lt h4.1 h4.2, rot_lt h4.1 h4.2, mp_swr f hf _ _ _ _ _ _ (Nat.le_refl _), mp_rot m c _ _ _ (by omega)]
        · rw [rot, if_neg h1, if_neg h2, if_neg h4, rot, if_neg h1, if_neg h2, if_neg h4]
theorem mp_symS (d : Array α) (a m b : Nat) : symS lt (d.map f) a m b = symS (fun x y => lt (f x) (f y)) d a m b := by
  unfold symS
  congr 1
  funext c
  rw [mp_get f hf, mp_get f hf]
theorem mp_sym1 (d : Array α) (a m b : Nat) : sym1 lt (d.map f) a m b = (sym1 (fun x y => lt (f x) (f y)) d a m b).map f := by
  unfold sym1
  rw [mp_symS f hf]
  split
  · exact mp_rot f hf m _ _ _ _ (Nat.le_refl _)
  · rfl
theorem mp_sym : ∀ (k : Nat) (d : Array α) (a m b : Nat), sym lt k (d.map f) a m b = (sym (fun x y => lt (f x) (f y)) k d a m b).map f
  | 0, d, a, m, b => rfl
  | k + 1, d, a, m, b => by
    unfold sym
    split
    · rw [show (fun h => lt (d.map f)[h]! (d.map f)[a]!) = fun h => lt (f d[h]!) (f d[a]!) from by funext h; rw [mp_get f hf, mp_get f hf]]
      exact mp_upS f hf _ _ _ _ (Nat.le_refl _)
    · split
      · rw [show (fun h => !lt (d.map f)[m]! (d.map f)[h]!) = fun h => !lt (f d[m]!) (f d[h]!) from by funext h; rw [mp_get f hf, mp_get f hf]]
        exact mp_dnS f hf _ _ _
      · rw [mp_symS f hf, mp_sym1 f hf]
        have e : (if a < symS (fun x y => lt (f x) (f y)) d a m b ∧ symS (fun x y => lt (f x) (f y)) d a m b < (a + b) / 2 then sym lt k ((sym1 (fun x y => lt (f x) (f y)) d a m b).map f) a (symS (fun x y => lt (f x) (f y)) d a m b) ((a + b) / 2) else (sym1 (fun x y => lt (f x) (f y)) d a m b).map f)
            = (if a < symS (fun x y => lt (f x) (f y)) d a m b ∧ symS (fun x y => lt (f x) (f y)) d a m b < (a + b) / 2 then sym (fun x y => lt (f x) (f y)) k (sym1 (fun x y => lt (f x) (f y)) d a m b) a (symS (fun x y => lt (f x) (f y)) d a m b) ((a + b) / 2) else sym1 (fun x y => lt (f x) (f y)) d a m b).map f := by
          split
          · exact mp_sym k _ _ _ _
          · rfl
        rw [e]
        split
        · exact mp_sym k _ _ _ _
        · rfl
theorem mp_insI (a : Nat) : ∀ (j : Nat) (d : Array α), insInner lt a j (d.map f) = (insInner (fun x y => lt (f x) (f y)) a j d).map f
  | 0, d => rfl
  | j + 1, d => by
    unfold insInner
    rw [mp_get f hf, mp_get f hf]
    split
    · rw [mp_swp f hf, mp_insI a j]
    · rfl
theorem mp_insO (a b : Nat) : ∀ (n i : Nat) (d : Array α), b - i ≤ n → insOuter lt a b i (d.map f) = (insOuter (fun x y => lt (f x) (f y)) a b i d).map f
  | 0, i, d, h => by rw [insOuter, if_neg (by omega), insOuter, if_neg (by omega)]
  | n + 1, i, d, h => by
    rw [insOuter]
    conv => rhs; rw [insOuter]
    split
    · rw [mp_insI f hf, mp_insO a b n _ _ (by omega)]
    · rfl
theorem mp_ins (d : Array α) (a b : Nat) : insertionSort lt (d.map f) a b = (insertionSort (fun x y => lt (f x) (f y)) d a b).map f := mp_insO f hf lt a b _ _ d (Nat.le_refl _)
theorem mp_blkS (n : Nat) : ∀ (c : Nat) (d : Array α) (a : Nat), n - a ≤ c → blkS lt n (d.map f) a = (blkS (fun x y => lt (f x) (f y)) n d a).map f
  | 0, d, a, h => by rw [blkS, if_neg (by omega), blkS, if_neg (by omega)]; exact mp_ins f hf lt d a n
  | c + 1, d, a, h => by
    rw [blkS]
    conv => rhs; rw [blkS]
    split
    · rw [mp_ins f hf, mp_blkS n c _ _ (by omega)]
    · exact mp_ins f hf lt d a n
theorem mp_pasS (n s : Nat) : ∀ (c : Nat) (d : Array α) (a : Nat), n - a ≤ c → pasS lt n s (d.map f) a = (pasS (fun x y => lt (f x) (f y)) n s d a).map f
  | 0, d, a, h => by
    by_cases h1 : a + 2 * s ≤ n ∧ 0 < s
    · omega
    · rw [pasS, if_neg h1, pasS, if_neg h1]
      split
      · exact mp_sym f hf lt n d _ _ _
      · rfl
  | c + 1, d, a, h => by
    rw [pasS]
    conv => rhs; rw [pasS]
    split
    · rw [mp_sym f hf, mp_pasS n s c _ _ (by omega)]
    · split
      · exact mp_sym f hf lt n d _ _ _
      · rfl
theorem mp_outS (n : Nat) : ∀ (c : Nat) (d : Array α) (s : Nat), n - s ≤ c → outS lt n (d.map f) s = (outS (fun x y => lt (f x) (f y)) n d s).map f
  | 0, d, s, h => by rw [outS, if_neg (by omega), outS, if_neg (by omega)]
  | c + 1, d, s, h => by
    rw [outS]
    conv => rhs; rw [outS]
    split
    · rw [mp_pasS f hf lt n s _ _ _ (Nat.le_refl _), mp_outS n c _ _ (by omega)]
    · rfl
theorem mp_stabS (d : Array α) : stabS lt (d.map f) = (stabS (fun x y => lt (f x) (f y)) d).map f := by
  unfold stabS
  rw [Array.size_map, mp_blkS f hf lt _ _ _ _ (Nat.le_refl _), mp_outS f hf lt _ _ _ _ (Nat.le_refl _)]
end
end
end Go.Proofs.YtimkgaokcldgkaaGreatDoor
/- Reading structs that came in, and slices of them, field by field: what each cell holds. No program here. -/
namespace Go.Proofs.YtimkgaokcldgkaaGreatDoor
open Go.RowKit Go.Joins Go.Deep

section
variable {H : Type} {enc : TypeId × Value → H} {P : Program} {w : World} {base : Nat} {spare : Nat → Bool} {held : Bool}

/-- These cells read as something of this type. -/
def Fits (enc : TypeId × Value → H) (P : Program) (w : World) (base : Nat) (spare : Nat → Bool) (held : Bool) (t : TypeId) (cs : List Value) : Prop := ∃ n x, DataW.trod enc P w base spare held n t cs = some x
theorem Fits.of {t : TypeId} {v : Value} {d : DataW H} {p : List MemPlace} (h : DataW.Trod enc P w base spare held t v d p) : Fits enc P w base spare held t v.cells.toList := by
  obtain ⟨n, h⟩ := h
  exact ⟨n, _, h⟩
theorem Fits.field {t : TypeId} {fs : Array Field} {cs : List Value} (h : Fits enc P w base spare held t cs) (ht : P.underlying t = some (.struct fs)) (i : Nat) {f : Field} (hf : fs[i]? = some f) :
    Fits enc P w base spare held f.type ((cs.drop f.offset).take (P.cellsOf f.type)) := by
  obtain ⟨n, x, h⟩ := h
  obtain ⟨xs, m, _, _, _, hlen, hx⟩ := DataW.trod_struct ht h
  have := hx i f hf
  have hi : i < xs.length := by rw [hlen]; exact (Array.getElem?_eq_some_iff.1 hf).1
  rw [List.getElem?_eq_getElem hi] at this
  exact ⟨m, _, this⟩
theorem Fits.length {t : TypeId} {fs : Array Field} {cs : List Value} (h : Fits enc P w base spare held t cs) (ht : P.underlying t = some (.struct fs)) : cs.length = P.cellsOf t := by
  obtain ⟨n, x, h⟩ := h
  obtain ⟨xs, m, _, _, hl, _⟩ := DataW.trod_struct ht h
  exact hl
theorem take_one {cs : List Value} {o : Nat} {v : Value} (h : (cs.drop o).take 1 = [v]) : cs[o]? = some v := by
  have : ((cs.drop o).take 1)[0]? = some v := by rw [h]; rfl
  simpa [List.getElem?_take, List.getElem?_drop] using this
theorem Fits.int {t u : TypeId} {fs : Array Field} {cs : List Value} {k : IntKind} (h : Fits enc P w base spare held t cs) (ht : P.underlying t = some (.struct fs)) (i o : Nat) {f : Field} (hf : fs[i]? = some f) (hu : f.type = u) (ho : f.offset = o) (hk : P.underlying u = some (.int k)) (hc : P.cellsOf u = 1) :
    ∃ z, cs[o]? = some (.int k z) ∧ (Lit.int k z).wf = true := by
  obtain ⟨n, x, h⟩ := h.field ht i hf
  subst hu
  subst ho
  rw [hc] at h
  obtain ⟨z, hz, _, wz⟩ := DataW.trod_int hk h
  exact ⟨z, take_one hz, wz⟩
theorem Fits.bool {t u : TypeId} {fs : Array Field} {cs : List Value} (h : Fits enc P w base spare held t cs) (ht : P.underlying t = some (.struct fs)) (i o : Nat) {f : Field} (hf : fs[i]? = some f) (hu : f.type = u) (ho : f.offset = o) (hk : P.underlying u = some .bool) (hc : P.cellsOf u = 1) :
    ∃ z, cs[o]? = some (.bool z) := by
  obtain ⟨n, x, h⟩ := h.field ht i hf
  subst hu
  subst ho
  rw [hc] at h
  obtain ⟨z, hz, _⟩ := DataW.trod_bool hk h
  exact ⟨z, take_one hz⟩
theorem Fits.string {t u : TypeId} {fs : Array Field} {cs : List Value} (h : Fits enc P w base spare held t cs) (ht : P.underlying t = some (.struct fs)) (i o : Nat) {f : Field} (hf : fs[i]? = some f) (hu : f.type = u) (ho : f.offset = o) (hk : P.underlying u = some .string) (hc : P.cellsOf u = 1) :
    ∃ z : ByteArray, cs[o]? = some (.string z) ∧ z.size ≤ maxLen := by
  obtain ⟨n, x, h⟩ := h.field ht i hf
  subst hu
  subst ho
  rw [hc] at h
  obtain ⟨z, hz, _, wz⟩ := DataW.trod_string hk h
  exact ⟨z, take_one hz, wz⟩
theorem Fits.slice {t u e : TypeId} {fs : Array Field} {cs : List Value} (h : Fits enc P w base spare held t cs) (ht : P.underlying t = some (.struct fs)) (i o : Nat) {f : Field} (hf : fs[i]? = some f) (hu : f.type = u) (ho : f.offset = o) (hk : P.underlying u = some (.slice e)) (hc : P.cellsOf u = 1) :
    ∃ a l c, cs[o]? = some (.slice a l c) ∧ Fits enc P w base spare held u [.slice a l c] := by
  obtain ⟨n, x, h⟩ := h.field ht i hf
  subst hu
  subst ho
  rw [hc] at h
  obtain ⟨a, l, c, hz⟩ := slice_form hk h
  exact ⟨a, l, c, take_one hz, n, x, by rw [← hz]; exact h⟩
/-- The cells of a field that is a struct itself. -/
theorem Fits.struct {t u : TypeId} {fs : Array Field} {cs : List Value} (h : Fits enc P w base spare held t cs) (ht : P.underlying t = some (.struct fs)) (i o m : Nat) {f : Field} (hf : fs[i]? = some f) (hu : f.type = u) (ho : f.offset = o) (hc : P.cellsOf u = m) :
    Fits enc P w base spare held u ((cs.drop o).take m) := by
  have := h.field ht i hf
  subst hu
  subst ho
  rw [hc] at this
  exact this
theorem sub_at {cs : List Value} {o m i : Nat} {v : Value} (h : ((cs.drop o).take m)[i]? = some v) : cs[o + i]? = some v := by
  have hi : i < m := by
    have := (List.getElem?_eq_some_iff.1 h).1
    simp at this
    omega
  simpa [List.getElem?_take, hi, List.getElem?_drop] using h

/-- A slice that came in, of elements of n cells each: cell j of element i is 'C i j'. -/
def IsSl (w : World) (n : Nat) (a : Option Addr) (len cap : Nat) (C : Nat → List Value) : Prop :=
  (a = none ∧ len = 0 ∧ cap = 0) ∨ ∃ b off, a = some ⟨b, off, none⟩ ∧ len ≤ cap ∧ cap ≤ maxLen ∧ ∀ i, i < cap → ∀ j v, (C i)[j]? = some v → w.cell? ⟨b, off + i * n + j, none⟩ = some v
theorem cells_at {a : Addr} {n : Nat} {cs : List Value} (h : w.cells? base a n = some cs) (j : Nat) (v : Value) (hv : cs[j]? = some v) : w.cell? (a.add j) = some v := by
  obtain ⟨_, hlen, hc⟩ := World.cells?_some h
  have hj : j < n := by rw [← hlen]; exact (List.getElem?_eq_some_iff.1 hv).1
  rw [hc j hj]
  exact hv
theorem Fits.elems {t e : TypeId} {n : Nat} {a : Option Addr} {len cap : Nat} (h : Fits enc P w base (fun _ => true) held t [.slice a len cap]) (ht : P.underlying t = some (.slice e)) (hn : P.cellsOf e = n) :
    ∃ C : Nat → List Value, (a = none ∧ len = 0 ∧ cap = 0 ∨ ∃ x, a = some x ∧ len ≤ cap ∧ cap ≤ maxLen ∧ ∀ i, i < cap → (C i).length = n ∧ Fits enc P w base (fun _ => true) held e (C i) ∧ ∀ j v, (C i)[j]? = some v → w.cell? ((x.add (i * n)).add j) = some v) := by
  obtain ⟨m, x, h⟩ := h
  rcases open_slice ht h with ⟨hcs, _⟩ | ⟨a', len', cap', m', n', D, Pl, hcs, _, hl, hm, hmm, _, hx⟩
  · simp at hcs
    exact ⟨fun _ => [], Or.inl ⟨hcs.1, hcs.2.1, hcs.2.2⟩⟩
  · simp at hcs
    obtain ⟨rfl, rfl, rfl⟩ := hcs
    simp at hmm
    subst hmm
    rw [hn] at hx
    refine ⟨fun i => if hi : i < m' then Classical.choose (hx i hi) else [], Or.inr ⟨a', rfl, hl, hm, fun i hi => ?_⟩⟩
    simp only [dif_pos hi]
    have hs := Classical.choose_spec (hx i hi)
    obtain ⟨_, hlen, _⟩ := World.cells?_some hs.1
    exact ⟨hlen, ⟨n', _, hs.2⟩, fun j v hv => cells_at hs.1 j v hv⟩
/-- The address of a slice that has cells is a plain one. -/
theorem plain_at {x : Addr} {n cap : Nat} {C : Nat → List Value} (hn0 : 0 < n) (h : ∀ i, i < cap → (C i).length = n ∧ ∀ j v, (C i)[j]? = some v → w.cell? ((x.add (i * n)).add j) = some v) (h0 : 0 < cap) :
    ∃ b off, x = ⟨b, off, none⟩ ∧ ∀ i, i < cap → ∀ j v, (C i)[j]? = some v → w.cell? ⟨b, off + i * n + j, none⟩ = some v := by
  obtain ⟨b, off, spot⟩ := x
  obtain ⟨hl, hc⟩ := h 0 h0
  have h1 := hc 0 ((C 0)[0]'(by omega)) (List.getElem?_eq_getElem (by omega))
  have hspot : spot = none := by simpa [Addr.add] using World.cell?_spot h1
  subst hspot
  refine ⟨b, off, rfl, fun i hi j v hv => ?_⟩
  have := (h i hi).2 j v hv
  rw [Go.WideShapes.add_plain, Go.WideShapes.add_plain] at this
  exact this
end
end Go.Proofs.YtimkgaokcldgkaaGreatDoor
/- What every frame shares: the program's own knob, its layout, and what a slice that came in is. -/
namespace Go.Proofs.YtimkgaokcldgkaaGreatDoor
open Go.RowKit

theorem own : ownKnob Tryz.prog.godebug = none := by kernel_rfl
theorem laidOut : laidOutB Tryz.prog = true := by kernel_rfl

/-- A slice of integers that came in: nil, or a row of 'cap' cells with the numbers 'zs', the first 'len' of which are its elements. -/
def IsRow (k : IntKind) (w : World) (a : Option Addr) (len cap : Nat) (zs : List Int) : Prop :=
  (a = none ∧ len = 0 ∧ cap = 0 ∧ zs = []) ∨
  ∃ x, a = some x ∧ len ≤ cap ∧ cap ≤ maxLen ∧ zs.length = cap ∧ (∀ i, i < zs.length → w.cell? (x.add i) = some (.int k (zs.getD i 0))) ∧ ∀ n ∈ zs, (Lit.int k n).wf = true

/-- A slice of bools that came in. -/
def IsBools (w : World) (a : Option Addr) (len cap : Nat) (B : Nat → Bool) : Prop :=
  (a = none ∧ len = 0 ∧ cap = 0) ∨ ∃ x, a = some x ∧ len ≤ cap ∧ cap ≤ maxLen ∧ ∀ i, i < cap → w.cell? (x.add i) = some (.bool (B i))
theorem bools_at {w : World} {a : Addr} {B : Nat → Bool} {cap : Nat} (h : ∀ i, i < cap → w.cell? (a.add i) = some (.bool (B i))) (hp : 0 < cap) :
    ∃ b off, a = ⟨b, off, none⟩ ∧ ∀ j, j < cap → w.cell? ⟨b, off + j, none⟩ = some (.bool (B j)) := by
  obtain ⟨b, off, spot⟩ := a
  have hspot : spot = none := by simpa [Addr.add] using World.cell?_spot (h 0 hp)
  subst hspot
  exact ⟨b, off, rfl, fun j hj => by rw [← Go.WideShapes.add_plain]; exact h j hj⟩

end Go.Proofs.YtimkgaokcldgkaaGreatDoor
