/- InternFull, walked. -/
import Derived.Test.YthoakigbjhlababInternBack
namespace Go.Proofs.Ythoakigbjhlabab
open Go.RowKit Go.Maps Go.WideMaps

/-- The i-th name. -/
def nm (i : Nat) : ByteArray := ⟨#[110, 97, 109, 101, 32, UInt8.ofNat i]⟩
def nms (n : Nat) : List ByteArray := (List.range n).map nm
theorem nm_inj {i j : Nat} (hi : i < 256) (hj : j < 256) (h : nm i = nm j) : i = j := by
  have h1 := congrArg (fun b : ByteArray => b.data[5]?) h
  simp [nm] at h1
  have h2 := congrArg UInt8.toNat h1
  simp at h2
  omega
theorem nms_succ (n : Nat) : nms (n + 1) = nms n ++ [nm n] := by simp [nms, List.range_succ]
theorem nms_length (n : Nat) : (nms n).length = n := by simp [nms]
theorem nm_not {n i : Nat} (hi : n ≤ i) (hi2 : i < 256) : nm i ∉ nms n := by
  intro h
  simp only [nms, List.mem_map, List.mem_range] at h
  obtain ⟨j, hj, e⟩ := h
  have := nm_inj (by omega) hi2 e
  omega
theorem nm_mem {n i : Nat} (hi : i < n) : nm i ∈ nms n := by
  simp only [nms, List.mem_map, List.mem_range]
  exact ⟨i, hi, rfl⟩
theorem nm_pos : ∀ {n i : Nat}, n ≤ 256 → i < n → pos (nms n) (nm i) = i
  | 0, i, _, h => by omega
  | n + 1, i, hn, h => by
    rw [nms_succ]
    by_cases e : i = n
    · subst e
      rw [pos_new (nm_not (Nat.le_refl _) (by omega)), nms_length]
    · rw [pos_old (nm_mem (by omega)), nm_pos (by omega) (by omega)]

theorem Tab.alloc {w : World} {B p bm : Nat} {a : Option Addr} {cap : Nat} {most : Int} {ns : List ByteArray} (h : Tab w B p bm a cap most ns) (o : Obj) : Tab (w.alloc o) B p bm a cap most ns :=
  h.later ((Below.refl _ _).alloc (Nat.le_refl _) o)
theorem conv_one (w : World) (k : Nat) (hk : k < 256) : (convert 37 9 (.slice (some ⟨w.heap.size, 0, none⟩) 1 1)).run Try.prog (w.alloc (.cells #[.int .u8 k] 5)) = .ok (.string ⟨#[UInt8.ofNat k]⟩) (w.alloc (.cells #[.int .u8 k] 5)) := by
  have := run_convert_bytes_back (w.alloc (.cells #[.int .u8 k] 5)) 37 9 5 ⟨w.heap.size, 0, none⟩ 1 [UInt8.ofNat k] Try.underlying37 Try.underlying5 Try.underlying9 (by
    intro j hj
    have h0 : j = 0 := by simpa using hj
    subst h0
    have := cell_one_new w (.int .u8 k) 5 0 (.int .u8 k) rfl
    rw [this]
    simp
    omega)
  simpa using this
theorem nm_is (k : Nat) : (({ data := #[110, 97, 109, 101, 32] } : ByteArray) ++ ({ data := #[UInt8.ofNat k] } : ByteArray)) = nm k := by
  apply ByteArray.ext
  simp [nm]
theorem nm_size (k : Nat) : (nm k).size ≤ maxLen := by
  show (6 : Nat) ≤ maxLen
  decide
theorem other_not (n : Nat) (s : ByteArray) : (({ data := #[111, 116, 104, 101, 114, 32] } : ByteArray) ++ s) ∉ nms n := by
  intro h
  simp only [nms, List.mem_map, List.mem_range] at h
  obtain ⟨j, _, e⟩ := h
  have h1 := congrArg (fun b : ByteArray => b.data[0]?) e
  simp [nm] at h1
  rw [Array.getElem?_append_left (by simp)] at h1
  simp at h1

set_option maxHeartbeats 2000000 in
theorem internFull_walk (m : Int) (s : ByteArray) (w : World) (wm : (Lit.int .u8 m).wf = true) (hs : s.size ≤ 140737488351232) :
    Calls Try.prog 6 #[.int .u8 m, .string s] w fun e w' => e = .returned (.bool true) ∧ Below w.heap.size w w' := by
  obtain ⟨m0, m1⟩ := bounds_u8 wm
  clear wm
  obtain ⟨K, hK, hK40⟩ : ∃ K : Nat, m % 40 = K ∧ K < 40 := ⟨(m % 40).toNat, by omega, by omega⟩
  obtain ⟨o, ho⟩ : ∃ o, (({ data := #[111, 116, 104, 101, 114, 32] } : ByteArray) ++ s) = o := ⟨_, rfl⟩
  have hos : Hid (o.size ≤ maxLen) := Lib.hid (by rw [← ho, ByteArray.size_append]; have : ({ data := #[111, 116, 104, 101, 114, 32] } : ByteArray).size = 6 := rfl; unfold maxLen; omega)
  have hon : Hid (o ∉ nms K) := Lib.hid (by rw [← ho]; exact other_not K s)
  go_enter Try.func6, Try.ntmps6
  go_wp2_with fail
  refine (new_table (K : Int) _).mono ?_
  rintro e w0 ⟨rfl, t0, b0⟩
  have T0 := Lib.hid t0
  clear t0
  go_wp2_with fail
  go_loopw [7] (fun i wr => ∃ k : Nat, k ≤ K ∧ i = .int .i64 k ∧ Below w.heap.size w wr ∧ ∃ a' cap', Hid (Tab wr w.heap.size (w.heap.size + 1) w.heap.size a' cap' K (nms k))) (fun i _ => K - (intOf i).toNat)
  case atStart => exact ⟨0, by omega, rfl, b0, none, 0, T0⟩
  case round =>
    obtain ⟨k, hk, rfl, hB, a', cap', HT⟩ := hrel
    clear T0 b0
    by_cases hlt : k < K
    · have hd1 : decide ((k : Int) < K) = true := decide_eq_true (by omega)
      have hconv := conv_one wr k (by omega)
      have hnm := nm_is k
      have hB' := Lib.hid hB
      have hsz := hB.size
      clear hB
      go_wp2_with fail
      refine (add_l (HT.out.alloc _) (by simp; omega) (nm k) (nm_size k) (nm_not (Nat.le_refl _) (by omega)) (by rw [nms_length]; omega) (by rw [nms_length]; omega) k (nms_length k)).mono ?_
      rintro e w1 ⟨rfl, a1, cap1, t1, _, b1, _⟩
      rw [← nms_succ] at t1
      have T1 := Lib.hid t1
      have HB1 := Lib.hid ((hB'.out.alloc hsz _).trans b1)
      clear t1 b1 HT hB' hconv hnm
      go_wp2_with fail
      go_roundw
      case rel => exact ⟨k + 1, by omega, by go_num, HB1.out, a1, cap1, T1⟩
      case measure => simp [intOf]; omega
    · have hd1 : decide ((k : Int) < K) = false := decide_eq_false (by omega)
      obtain rfl : k = K := by omega
      have hB' := Lib.hid hB
      have HL := Lib.hid (show ((nms k).length : Int) = (k : Int) by rw [nms_length])
      clear hB
      go_wp2_with fail
      refine (add_full HT.out o hos.out hon.out (by rw [nms_length]; exact Int.le_refl _)).mono ?_
      rintro e w1 ⟨rfl, rfl⟩
      clear hd1 hlt hk
      go_wp2_with fail
      refine (len_as HT.out k HL.out).mono ?_
      rintro e w1 ⟨rfl, rfl⟩
      go_wp2_with fail
      go_loopw [12] (fun i wx => ∃ j : Nat, j ≤ k ∧ i = .int .i64 j ∧ Below w.heap.size w wx ∧ Hid (Tab wx w.heap.size (w.heap.size + 1) w.heap.size a' cap' k (nms k))) (fun i _ => k - (intOf i).toNat)
      case atStart => exact ⟨0, by omega, rfl, hB'.out, HT⟩
      case round =>
        clear hB' HT
        obtain ⟨j, hj, rfl, hB, HT⟩ := hrel
        by_cases hlt : j < k
        · have hd1 : decide ((j : Int) < k) = true := decide_eq_true (by omega)
          have hconv := conv_one wr j (by omega)
          have hnm := nm_is j
          have HB := Lib.hid (hB.alloc hB.size (.cells #[.int .u8 j] 5))
          have HT' := Lib.hid (HT.out.alloc (.cells #[.int .u8 j] 5))
          clear HT hB
          go_wp2_with fail
          refine (add_q HT'.out (nm j) (nm_size j) (nm_mem hlt) j (nm_pos (by omega) hlt)).mono ?_
          rintro e w1 ⟨rfl, rfl⟩
          clear hconv hnm
          go_wp2_with fail
          go_roundw
          case rel => exact ⟨j + 1, by omega, by go_num, HB.out, HT'⟩
          case measure => simp [intOf]; omega
        · have hd1 : decide ((j : Int) < k) = false := decide_eq_false (by omega)
          go_wp2_with fail
          refine (awake06 _).mono ?_
          rintro e w1 ⟨rfl, hb1⟩
          go_wp2
          go_ret
          exact ⟨rfl, hB.trans (hb1.mono hB.size)⟩
end Go.Proofs.Ythoakigbjhlabab
