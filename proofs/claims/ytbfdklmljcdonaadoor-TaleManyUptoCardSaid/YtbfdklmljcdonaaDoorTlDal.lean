/- Package tale: words as texts, all of them; the numbers of a step. -/
import Derived.Test.YtbfdklmljcdonaaDoorTlDec
namespace Go.Proofs.YtbfdklmljcdonaaDoor
open Go Go.RowKit
set_option linter.unusedVariables false
set_option linter.unusedSimpArgs false
set_option maxRecDepth 10000

def strV (ss : List ByteArray) : List Value := ss.map .string
theorem strV_len (ss : List ByteArray) : (strV ss).length = ss.length := by simp [strV]
theorem strV_one (ss : List ByteArray) : ∀ u ∈ strV ss, u.oneCell' = true := by
  intro u hu
  obtain ⟨c, _, rfl⟩ := List.mem_map.1 hu
  simp [Value.oneCell']
theorem strV_app (a b : List ByteArray) : strV (a ++ b) = strV a ++ strV b := by simp [strV]
theorem one_str (x : ByteArray) : (#[.string x] : Array Value).all (·.oneCell') = true := by simp [Value.oneCell']
theorem rdc_own {w : World} {B n c size : Nat} {E : TypeId} {a : Option Addr} {xs : List Value} (h : Own w B E size a n c xs) (hp : 0 < size) : RdC w a xs := fun j u hj => by
  have h0 : 0 < n := by
    have := (List.getElem?_eq_some_iff.1 hj).1
    rw [h.len] at this
    rcases Nat.eq_zero_or_pos n with h | h
    · subst h; simp at this
    · exact h
  obtain ⟨g, rfl, _⟩ := h.some_ h0
  exact ⟨g, 0, rfl, by rw [Nat.zero_add]; exact h.cell hj⟩
def DalP (ws : List ByteArray) (w : World) (e : Ending) (w' : World) : Prop :=
  (decsW (ws.map bl) = none ∧ (∃ a n c, e = .returned (.tuple #[.slice a n c, .bool false])) ∧ Below w.heap.size w w') ∨
  (∃ ts a c n, decsW (ws.map bl) = some (ts.map bl) ∧ e = .returned (.tuple #[.slice a n c, .bool true]) ∧ ts.length = n ∧ Own w' w.heap.size 9 1 a n c (strV ts) ∧ Below w.heap.size w w')
set_option maxHeartbeats 2000000 in
theorem decodeAll_at (ws : List ByteArray) (N : Nat) (hN : ws.length = N) (hN2 : N ≤ 3000000) (hws : ∀ x ∈ ws, x.size ≤ 3000000) (a : Option Addr) (cap : Nat) (w : World) (hr : RdC w a (strV ws)) :
    Calls Tryd.prog 30 #[.slice a N cap] w (DalP ws w) := by
  have HW := Lib.hid hws
  have HR := Lib.hid hr
  have HN := Lib.hid hN
  clear hws hr hN
  go_enter Tryd.func30, Tryd.ntmps30
  go_wp2_with fail
  go_loopw [4, 11] (fun vl vk wr => ∃ (k n c : Nat) (al : Option Addr) (ts : List ByteArray), k ≤ N ∧ n = k ∧ vk = .int .i64 (k : Int) ∧ vl = .slice al n c ∧ Hid (Own wr w.heap.size 9 1 al n c (strV ts)) ∧ Hid (Below w.heap.size w wr) ∧ Hid (ts.length = k) ∧ Hid (decsW (ws.map bl) = (decsW ((ws.map bl).drop k)).map (ts.map bl ++ ·))) (fun _ vk _ => N - (intOf vk).toNat)
  case atStart => exact ⟨0, 0, 0, none, [], by omega, by omega, rfl, rfl, Lib.hid (Own.nil _ _ _ _), Lib.hid (Below.refl _ _), Lib.hid rfl, Lib.hid (by simp)⟩
  case round =>
    obtain ⟨k, n, c, al, ts, hk, hnk, rfl, rfl, HO, HB, HL, HM⟩ := hrel
    have HNK := Lib.hid hnk
    have hn5 : n ≤ 3000000 := by omega
    clear hnk
    by_cases hlt : k < N
    · have hkd : decide ((k : Int) < (N : Int)) = true := decide_eq_true (by omega)
      obtain ⟨x, hx⟩ : ∃ x, ws[k]? = some x := ⟨ws[k]'(by have := HN.out; omega), List.getElem?_eq_getElem _⟩
      obtain ⟨b2, o2, rfl, hc⟩ := HR.out k (.string x) (by unfold strV; rw [List.getElem?_map, hx]; rfl)
      have hc1 := (HB.out.cell (World.block_lt_of_cell? _ _ hc)).trans hc
      have HX : Hid ((ws.map bl).drop k = bl x :: (ws.map bl).drop (k + 1)) := Lib.hid (by
        rw [List.drop_eq_getElem_cons (by rw [List.length_map, HN.out]; exact hlt)]
        congr 1
        rw [List.getElem_map]
        have h9 := (List.getElem?_eq_some_iff.1 hx).2
        rw [h9])
      have hxs := HW.out x (List.mem_of_getElem? hx)
      have hk0 : (0 : Int) ≤ (k : Int) := by omega
      have hk1 : (k : Int) < (N : Int) := by omega
      clear hx hc
      go_wp2_with fail
      refine (decode_at x hxs wr).mono ?_
      rintro e w2 ⟨t, b, rfl, b2', hu⟩
      have HU := Lib.hid hu
      have B2 := Lib.hid (HB.out.trans (b2'.mono HB.out.size))
      have O2 := Lib.hid (HO.out.later b2')
      clear hu b2' hc1 HB HO
      cases b with
      | false =>
        have HF : Hid (decsW (ws.map bl) = none) := Lib.hid (by rw [HM.out, HX.out, decsW, HU.out]; rfl)
        go_wp2
        go_ret2
        exact Or.inl ⟨HF.out, ⟨_, _, _, rfl⟩, B2.out⟩
      | true =>
        have HM2 : Hid (decsW (ws.map bl) = (decsW ((ws.map bl).drop (k + 1))).map ((ts ++ [t]).map bl ++ ·)) := Lib.hid (by
          rw [HM.out, HX.out, decsW, HU.out, if_pos rfl]
          simp only
          rw [Option.map_map]
          congr 1
          funext y
          simp)
        have HZ : Hid (strV ts ++ #[.string t].toList = strV (ts ++ [t])) := Lib.hid (by rw [strV_app]; rfl)
        have HL2 : Hid ((ts ++ [t]).length = k + 1) := Lib.hid (by rw [List.length_append, HL.out]; rfl)
        have HNK3 : Hid (n + 1 = k + 1) := Lib.hid (by rw [HNK.out])
        clear HM HL HX HU
        go_wp2_with (at_builtin; refine wpList_app1 rowSt rfl _ _ rfl w.heap.size al n c (strV ts) rfl O2.out #[.string t] rfl rfl (one_str t) (by omega) (by decide) B2.out.size (n + 1) rfl (strV (ts ++ [t])) HZ.out ?_; rintro g5 c5 w5 p1 p2 p3 p4; have NX := Lib.hid (And.intro p1 (B2.out.trans p3)); clear p1 p2 p3 p4 O2 B2)
        go_roundw
        case rel => exact ⟨k + 1, n + 1, c5, _, ts ++ [t], by omega, HNK3.out, by go_num, rfl, Lib.hid NX.out.1, Lib.hid NX.out.2, HL2, HM2⟩
        case measure => simp [intOf]; omega
    · have hkd : decide ((k : Int) < (N : Int)) = false := decide_eq_false (by omega)
      have HF : Hid (decsW (ws.map bl) = some (ts.map bl)) := Lib.hid (by
        rw [HM.out, List.drop_eq_nil_of_le (by rw [List.length_map, HN.out]; omega)]
        simp [decsW])
      have HLN : Hid (ts.length = n) := Lib.hid (by rw [HL.out, HNK.out])
      go_wp2
      go_ret2
      exact Or.inr ⟨ts, _, _, _, HF.out, rfl, HLN.out, HO.out, HB.out⟩
structure Stp where
  k : Int
  a : Int
  b : Int
  c : Int
  t : ByteArray
  hs : List (ByteArray × ByteArray)
def hdB (h : ByteArray × ByteArray) : Bt × Bt := (bl h.1, bl h.2)
def spOf (x : Stp) : Sp := ⟨x.k, x.a, x.b, x.c, bl x.t, x.hs.map hdB⟩
def hdV (hs : List (ByteArray × ByteArray)) : List Value := hs.flatMap fun h => [.string h.1, .string h.2]
def stA (k a b c : Int) (t : ByteArray) (ha : Option Addr) (n hc : Nat) : Array Value := #[.int .i64 k, .int .i64 a, .int .i64 b, .int .i64 c, .string t, .slice ha n hc]
def inV (l : List Int) : List Value := l.map (.int .i64 ·)
theorem rowIn : RowTy Tryd.prog 49 3 1 8 := ⟨Tryd.underlying49, ⟨.int .i64 0, by kernel_rfl, rfl⟩, by decide⟩
set_option maxHeartbeats 1000000 in
theorem numbers_at (k a b c : Int) (t : ByteArray) (ha : Option Addr) (n hc : Nat) (w : World) :
    Calls Tryd.prog 14 #[.agg #[.int .i64 k, .int .i64 a, .int .i64 b, .int .i64 c, .string t, .slice ha n hc]] w fun e w' => ∃ g, e = .returned (.slice (some ⟨g, 0, none⟩) 3 3) ∧ Own w' w.heap.size 3 1 (some ⟨g, 0, none⟩) 3 3 (inV [a, b, c]) ∧ Below w.heap.size w w' := by
  go_enter Tryd.func14, Tryd.ntmps14
  go_wp2
  go_ret
  refine ⟨_, rfl, ?_, ?_⟩
  · have h9 := Own.lit (w := w.alloc (.cells #[.int .i64 k, .int .i64 a, .int .i64 b, .int .i64 c, .string t, .slice ha n hc] 26)) (B := w.heap.size) (n := 3) (size := 1) (cs := #[.int .i64 a, .int .i64 b, .int .i64 c]) (E := 3) (by simp) (by omega) rfl
    rw [World.size_alloc] at h9
    exact h9
  · exact ((Below.refl _ _).alloc (Nat.le_refl _) _).alloc (by simp) _
end Go.Proofs.YtbfdklmljcdonaaDoor
