/- Package tale: texts as words. -/
import Derived.Test.YtbfdklmljcdonaaDoorChecked
import Derived.Test.YtbfdklmljcdonaaDoorTlLine
import Derived.Test.YtbfdklmljcdonaaDoorOwn
import Derived.Test.YtbfdklmljcdonaaDoorBox
import Derived.Test.YtbfdklmljcdonaaDoorForget
import Derived.Test.YtbfdklmljcdonaaDoorLast
import Derived.Lib.Hide
import Derived.BigQuiet
import Derived.Deep.QuietTactic
import Derived.Deep.RegionWith
import Derived.Deep.Cut
import Derived.Deep.CutRange
import Derived.Deep.CutBlock
import Derived.Deep.DeepCutAuto
namespace Go.Proofs.YtbfdklmljcdonaaDoor
open Go Go.RowKit
set_option linter.unusedVariables false
set_option linter.unusedSimpArgs false
set_option maxRecDepth 10000

def stB (l : Bt) : ByteArray := ⟨l.toArray⟩
def bl (s : ByteArray) : Bt := s.data.toList
theorem bl_stB (l : Bt) : bl (stB l) = l := rfl
theorem stB_bl (s : ByteArray) : stB (bl s) = s := by unfold stB bl; simp
theorem bl_inj {a b : ByteArray} (h : bl a = bl b) : a = b := by rw [← stB_bl a, h, stB_bl]
theorem bl_len (s : ByteArray) : (bl s).length = s.size := by unfold bl; simp
theorem stB_size (l : Bt) : (stB l).size = l.length := by unfold stB; exact List.size_toArray ..
def u8V (l : Bt) : List Value := l.map fun c => .int .u8 (c.toNat : Int)
theorem u8V_len (l : Bt) : (u8V l).length = l.length := by simp [u8V]
theorem u8V_one (l : Bt) : ∀ u ∈ u8V l, u.oneCell' = true := by
  intro u hu
  obtain ⟨c, _, rfl⟩ := List.mem_map.1 hu
  rfl
theorem rowU8 : RowTy Tryd.prog 52 5 1 1 := ⟨Tryd.underlying52, ⟨.int .u8 0, by kernel_rfl, rfl⟩, by decide⟩
theorem rowSt : RowTy Tryd.prog 42 9 1 16 := ⟨Tryd.underlying42, ⟨.string ByteArray.empty, by kernel_rfl, rfl⟩, by decide⟩
theorem bl_at (s : ByteArray) (k : Nat) (h : k < s.size) : (bl s)[k]? = some s[k] := by
  unfold bl
  rw [Array.getElem?_toList, Array.getElem?_eq_getElem h]
  rfl
theorem hexL_snoc (l : Bt) (c : UInt8) : hexL (l ++ [c]) = hexL l ++ [hexD (c.toNat / 16), hexD (c.toNat % 16)] := by
  unfold hexL
  rw [List.flatMap_append]
  rfl
theorem enc_and_fin : ∀ c : Fin 256, bits BinOp.and IntKind.u8 (c.val : Int) 15 = (c.val : Int) % 16 := by decide +kernel
theorem enc_and (c : UInt8) : bits BinOp.and IntKind.u8 (c.toNat : Int) 15 = (c.toNat : Int) % 16 := enc_and_fin ⟨c.toNat, c.toNat_lt⟩
theorem enc_next (s : ByteArray) (k : Nat) (h : k < s.size) : u8V (hexW ((bl s).take k)) ++ u8V [hexD (s[k].toNat / 16), hexD (s[k].toNat % 16)] = u8V (hexW ((bl s).take (k + 1))) := by
  have e : (bl s).take (k + 1) = (bl s).take k ++ [s[k]] := by
    rw [List.take_add_one, bl_at s k h]
    rfl
  unfold u8V hexW
  rw [← List.map_append, e, hexL_snoc, List.cons_append]
theorem dig_fin : ∀ d : Fin 16, ({ data := #[48, 49, 50, 51, 52, 53, 54, 55, 56, 57, 97, 98, 99, 100, 101, 102] } : ByteArray)[d.val]'(by have := d.isLt; exact this) = hexD d.val := by decide +kernel
theorem dig_of (z : Int) (n : Nat) (hn : n < 16) (hz : z.toNat = n) (h : z.toNat < 16) : ({ data := #[48, 49, 50, 51, 52, 53, 54, 55, 56, 57, 97, 98, 99, 100, 101, 102] } : ByteArray)[z.toNat]'h = hexD n := by
  subst hz
  exact dig_fin ⟨z.toNat, h⟩
theorem dig_hi (c : UInt8) (h : ((c.toNat : Int) / 16).toNat < 16) : ({ data := #[48, 49, 50, 51, 52, 53, 54, 55, 56, 57, 97, 98, 99, 100, 101, 102] } : ByteArray)[((c.toNat : Int) / 16).toNat]'h = hexD (c.toNat / 16) := dig_of _ _ (by have := c.toNat_lt; omega) (by omega) h
theorem dig_lo (c : UInt8) (h : ((c.toNat : Int) % 16).toNat < 16) : ({ data := #[48, 49, 50, 51, 52, 53, 54, 55, 56, 57, 97, 98, 99, 100, 101, 102] } : ByteArray)[((c.toNat : Int) % 16).toNat]'h = hexD (c.toNat % 16) := dig_of _ _ (by omega) (by omega) h
theorem new_cells (w : World) (cs : Array Value) (t : TypeId) : ∀ j u, cs.toList[j]? = some u → (w.alloc (.cells cs t)).cell? ⟨w.heap.size, 0 + j, none⟩ = some u := by
  intro j u hj
  rw [Nat.zero_add]
  have hb := heap_alloc_new w (.cells cs t)
  unfold World.cell?
  rw [hb]
  simpa using hj
theorem stB_nums (l : Bt) : strOfNums (l.map fun c => ((c.toNat : Nat) : Int)) = stB l := by
  show (⟨(List.map (fun z : Int => UInt8.ofNat z.toNat) (l.map fun c => ((c.toNat : Nat) : Int))).toArray⟩ : ByteArray) = stB l
  unfold stB
  rw [List.map_map]
  congr 2
  conv => rhs; rw [← List.map_id l]
  apply List.map_congr_left
  intro c _
  simp
theorem own_text {w : World} {B n cap : Nat} {a : Option Addr} {l : Bt} (h : Own w B 5 1 a n cap (u8V l)) (hn : l.length = n) : (convert 52 9 (.slice a n cap)).run Tryd.prog w = .ok (.string (stB l)) w := by
  rw [← stB_nums]
  by_cases h0 : n = 0
  · subst h0
    have : l = [] := List.eq_nil_of_length_eq_zero hn
    subst this
    cases a with
    | none => exact run_convert_bytes_nil w _ _ Tryd.underlying52 Tryd.underlying5 _ _ _ Tryd.underlying9
    | some x => exact run_convert_bytes_back w _ _ _ x cap [] Tryd.underlying52 Tryd.underlying5 Tryd.underlying9 (fun j hj => by simp at hj)
  · obtain ⟨g, rfl, _⟩ := h.some_ (by omega)
    refine run_convert_bytes_arg w _ _ Tryd.underlying52 Tryd.underlying5 g 0 n cap _ (by simp [hn]) (fun i hi => ?_) _ Tryd.underlying9
    have hc := h.cell (j := i) (u := .int .u8 ((l[i]'(by omega)).toNat : Int)) (by unfold u8V; rw [List.getElem?_map, List.getElem?_eq_getElem (by omega)]; rfl)
    rw [Nat.zero_add, hc, List.getD_eq_getElem?_getD, List.getElem?_map, List.getElem?_eq_getElem (by omega)]
    rfl
set_option maxHeartbeats 2000000 in
theorem encode_at (s t : ByteArray) (ht : stB (hexW (bl s)) = t) (hs : s.size ≤ 3000000) (w : World) :
    Calls Tryd.prog 19 #[.string s] w fun e w' => e = .returned (.string t) ∧ Below w.heap.size w w' := by
  have HT := Lib.hid ht
  clear ht
  have OL := Lib.hid (Own.lit (w := w) (B := w.heap.size) (n := 1) (size := 1) (cs := #[.int .u8 120]) (E := 5) (Nat.le_refl _) (by omega) rfl)
  have BL := Lib.hid ((Below.refl w.heap.size w).alloc (Nat.le_refl _) (.cells #[.int .u8 120] 5))
  go_enter Tryd.func19, Tryd.ntmps19
  go_wp2_with fail
  go_loopw [3, 8] (fun vb vk wr => ∃ (k n c g : Nat), k ≤ s.size ∧ n = 1 + 2 * k ∧ vk = .int .i64 (k : Int) ∧ vb = .slice (some ⟨g, 0, none⟩) n c ∧ Hid (Own wr w.heap.size 5 1 (some ⟨g, 0, none⟩) n c (u8V (hexW ((bl s).take k)))) ∧ Hid (Below w.heap.size w wr)) (fun _ vk _ => s.size - (intOf vk).toNat)
  case atStart => exact ⟨0, 1, 1, _, by omega, by omega, rfl, rfl, OL, BL⟩
  case round =>
    clear OL BL
    obtain ⟨k, n, c, g, hk, hn, rfl, rfl, HO, HB⟩ := hrel
    have HN := Lib.hid hn
    clear hn
    by_cases hlt : k < s.size
    · have hkd : decide ((k : Int) < (s.size : Int)) = true := decide_eq_true (by omega)
      have HZ : Hid (u8V (hexW ((bl s).take k)) ++ u8V [hexD (s[k].toNat / 16), hexD (s[k].toNat % 16)] = u8V (hexW ((bl s).take (k + 1)))) := Lib.hid (enc_next s k hlt)
      have hnb : n ≤ 6000001 := by have := HN.out; omega
      obtain ⟨CC, hCC⟩ : ∃ c, s[k] = c := ⟨_, rfl⟩
      rw [hCC] at HZ
      go_upto_region 5 with fail
      refine wp_region_last 13 (fun w' => Below w.heap.size w w') (by kernel_rfl) (HB.out.drew) (fun hHeld hClosed => ?_)
      refine wpAnyL_take (i := 0) (v := ?_) rfl (by kernel_rfl) (by kernel_rfl) (by kernel_rfl) (by kernel_rfl) (fun _ _ _ h => h) (by kernel_rfl) hClosed (Or.inl ⟨by rfl, ?_⟩) hHeld (fun hClosed => ?_)
      rotate_left
      · intro wv hSw; go_simp; all_goals (with_reducible rfl)
      (try simp only [List.getElem_toArray, List.getElem_cons_zero, put_at, List.set])
      refine wpAnyL_take (i := 1) (v := ?_) rfl (by kernel_rfl) (by kernel_rfl) (by kernel_rfl) (by kernel_rfl) (fun _ _ _ h => h) (by kernel_rfl) hClosed (Or.inl ⟨by rfl, ?_⟩) hHeld (fun hClosed => ?_)
      rotate_left
      · intro wv hSw; go_simp; all_goals (with_reducible rfl)
      (try simp only [List.getElem_toArray, List.getElem_cons_succ, List.getElem_cons_zero, put_at, List.set])
      refine wpAnyL_take (i := 2) (v := ?_) rfl (by kernel_rfl) (by kernel_rfl) (by kernel_rfl) (by kernel_rfl) (fun _ _ _ h => h) (by kernel_rfl) hClosed (Or.inl ⟨by rfl, ?_⟩) hHeld (fun hClosed => ?_)
      rotate_left
      · intro wv hSw; go_simp; all_goals (with_reducible rfl)
      (try simp only [List.getElem_toArray, List.getElem_cons_succ, List.getElem_cons_zero, put_at, List.set])
      refine wpAnyL_take (i := 3) (v := .int .u8 (CC.toNat : Int)) rfl (by kernel_rfl) (by kernel_rfl) (by kernel_rfl) (by kernel_rfl) (fun _ _ _ h => h) (by kernel_rfl) hClosed (Or.inl ⟨by rfl, ?_⟩) hHeld (fun hClosed => ?_)
      · intro wv hSw; go_simp
      (try simp only [List.getElem_toArray, List.getElem_cons_succ, List.getElem_cons_zero, put_at, List.set])
      refine wpAnyL_take (i := 4) (v := .int .u8 ((CC.toNat : Int) / 16)) rfl (by kernel_rfl) (by kernel_rfl) (by kernel_rfl) (by kernel_rfl) (fun _ _ _ h => h) (by kernel_rfl) hClosed (Or.inl ⟨by rfl, ?_⟩) hHeld (fun hClosed => ?_)
      · intro wv hSw; go_simp
      (try simp only [List.getElem_toArray, List.getElem_cons_succ, List.getElem_cons_zero, put_at, List.set])
      refine wpAnyL_take (i := 5) (v := .int .u8 ((hexD (CC.toNat / 16)).toNat : Int)) rfl (by kernel_rfl) (by kernel_rfl) (by kernel_rfl) (by kernel_rfl) (fun _ _ _ h => h) (by kernel_rfl) hClosed (Or.inl ⟨by rfl, ?_⟩) hHeld (fun hClosed => ?_)
      · intro wv hSw; have hq := CC.toNat_lt; go_simp; rw [dif_pos (by omega)]; simp only [dig_hi]; rfl
      (try simp only [List.getElem_toArray, List.getElem_cons_succ, List.getElem_cons_zero, put_at, List.set])
      refine wpAnyL_take (i := 6) (v := ?_) rfl (by kernel_rfl) (by kernel_rfl) (by kernel_rfl) (by kernel_rfl) (fun _ _ _ h => h) (by kernel_rfl) hClosed (Or.inl ⟨by rfl, ?_⟩) hHeld (fun hClosed => ?_)
      rotate_left
      · intro wv hSw; go_simp; all_goals (with_reducible rfl)
      (try simp only [List.getElem_toArray, List.getElem_cons_succ, List.getElem_cons_zero, put_at, List.set])
      refine wpAnyL_take (i := 7) (v := ?_) rfl (by kernel_rfl) (by kernel_rfl) (by kernel_rfl) (by kernel_rfl) (fun _ _ _ h => h) (by kernel_rfl) hClosed (Or.inl ⟨by rfl, ?_⟩) hHeld (fun hClosed => ?_)
      rotate_left
      · intro wv hSw; go_simp; all_goals (with_reducible rfl)
      (try simp only [List.getElem_toArray, List.getElem_cons_succ, List.getElem_cons_zero, put_at, List.set])
      refine wpAnyL_take (i := 8) (v := .int .u8 (CC.toNat : Int)) rfl (by kernel_rfl) (by kernel_rfl) (by kernel_rfl) (by kernel_rfl) (fun _ _ _ h => h) (by kernel_rfl) hClosed (Or.inl ⟨by rfl, ?_⟩) hHeld (fun hClosed => ?_)
      · intro wv hSw; go_simp
      (try simp only [List.getElem_toArray, List.getElem_cons_succ, List.getElem_cons_zero, put_at, List.set])
      refine wpAnyL_take (i := 9) (v := .int .u8 ((CC.toNat : Int) % 16)) rfl (by kernel_rfl) (by kernel_rfl) (by kernel_rfl) (by kernel_rfl) (fun _ _ _ h => h) (by kernel_rfl) hClosed (Or.inl ⟨by rfl, ?_⟩) hHeld (fun hClosed => ?_)
      · intro wv hSw; go_simp; exact enc_and CC
      (try simp only [List.getElem_toArray, List.getElem_cons_succ, List.getElem_cons_zero, put_at, List.set])
      refine wpAnyL_take (i := 10) (v := .int .u8 ((hexD (CC.toNat % 16)).toNat : Int)) rfl (by kernel_rfl) (by kernel_rfl) (by kernel_rfl) (by kernel_rfl) (fun _ _ _ h => h) (by kernel_rfl) hClosed (Or.inl ⟨by rfl, ?_⟩) hHeld (fun hClosed => ?_)
      · intro wv hSw; have hq := CC.toNat_lt; go_simp; rw [dif_pos (by omega)]; simp only [dig_lo]; rfl
      (try simp only [List.getElem_toArray, List.getElem_cons_succ, List.getElem_cons_zero, put_at, List.set])
      refine wpAnyL_one (i := 11) rfl (by kernel_rfl) (by kernel_rfl) hClosed (fun KK hK => ?_)
      go_simp
      refine hK.out _ _ ?_ (fun hClosed hHeld => ?_)
      · exact hHeld.alloc hHeld.size _
      clear hK KK
      (first | simp only [List.getElem_toArray, List.getElem_cons_succ, List.getElem_cons_zero, put_at, List.set] | (try simp only [put_at, List.set]))
      refine wpAnyL_one (i := 12) rfl (by kernel_rfl) (by kernel_rfl) hClosed (fun KK hK => ?_)
      refine step_appR rowU8 rfl _ _ rfl w.heap.size (some ⟨g, 0, none⟩) n c (u8V (hexW ((bl s).take k))) rfl (HO.out.drew.alloc _) _ 0 2 2 (u8V [hexD (CC.toNat / 16), hexD (CC.toNat % 16)]) rfl (by decide) rfl (new_cells _ _ _) (u8V_one _) (by omega) (by decide) hHeld.size (n + 2) rfl (u8V (hexW ((bl s).take (k + 1)))) HZ.out ?_
      rintro g5 c5 w5 p1 p2 p3 p4
      refine hK.out _ _ ?_ (fun hClosed hHeld => ?_)
      · exact hHeld.trans p3
      clear hK KK
      (first | simp only [List.getElem_toArray, List.getElem_cons_succ, List.getElem_cons_zero, put_at, List.set] | (try simp only [put_at, List.set]))
      refine wpAnyL_last rfl (by kernel_rfl) (by kernel_rfl) (fun KK hK => ?_)
      go_simp
      refine hK.out _ _ ?_
      (try simp only [put_at, List.set])
      go_wp2
      go_roundw
      case rel => exact ⟨k + 1, n + 2, c5, g5, by omega, by have := HN.out; omega, by go_num, rfl, Lib.hid p1, Lib.hid hHeld⟩
      case measure => simp [intOf]; omega
    · have hkd : decide ((k : Int) < (s.size : Int)) = false := decide_eq_false (by omega)
      have e1 : (bl s).take k = bl s := List.take_of_length_le (by rw [bl_len]; omega)
      rw [e1] at HO
      have hcv := own_text HO.out (by unfold hexW; rw [List.length_cons, hexL_length, bl_len]; have := HN.out; omega)
      rw [HT.out] at hcv
      go_wp2
      go_ret
      exact ⟨rfl, HB.out⟩
end Go.Proofs.YtbfdklmljcdonaaDoor
