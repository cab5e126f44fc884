/- InternBack, walked. -/
import Derived.Test.YthoakigbjhlababInternLaws
import Derived.Test.YthoakigbjhlababTexts
namespace Go.Proofs.Ythoakigbjhlabab
open Go.RowKit Go.Maps Go.WideMaps

section
variable {w : World} {B p bm : Nat} {a : Option Addr} {cap : Nat} {most : Int} {ns : List ByteArray}
theorem add_q (h : Tab w B p bm a cap most ns) (s : ByteArray) (hs : s.size ≤ maxLen) (hin : s ∈ ns) (q : Nat) (hq : pos ns s = q) : Calls Try.prog 13 #[.pointer (some ⟨p, 0, none⟩), .string s] w fun e w' => e = .returned (.tuple #[.int .i64 q, .int .i64 0]) ∧ w' = w := by
  subst hq
  exact add_in h s hs hin
theorem find_q (h : Tab w B p bm a cap most ns) (s : ByteArray) (hs : s.size ≤ maxLen) (hin : s ∈ ns) (q : Nat) (hq : pos ns s = q) : Calls Try.prog 12 #[.pointer (some ⟨p, 0, none⟩), .string s] w fun e w' => e = .returned (.tuple #[.int .i64 q, .bool true]) ∧ w' = w := by
  subst hq
  exact find_in h s hs hin
theorem add_l (h : Tab w B p bm a cap most ns) (hB : B ≤ w.heap.size) (s : ByteArray) (hs : s.size ≤ maxLen) (hin : s ∉ ns) (hf : (ns.length : Int) < most) (hl : ns.length < 1000000) (q : Nat) (hq : ns.length = q) : Calls Try.prog 13 #[.pointer (some ⟨p, 0, none⟩), .string s] w fun e w' =>
    e = .returned (.tuple #[.int .i64 q, .int .i64 0]) ∧ ∃ a' cap', Tab w' B p bm a' cap' most (ns ++ [s]) ∧ (∀ k, (Value.slice a' 0 0).ownBlock = some k → (Value.slice a 0 0).ownBlock = some k ∨ w.heap.size ≤ k) ∧ Below B w w' ∧
      ∀ k, k < w.heap.size → k ≠ p → k ≠ bm → (Value.slice a 0 0).ownBlock ≠ some k → w'.heap[k]? = w.heap[k]? := by
  subst hq
  exact add_new h hB s hs hin hf hl
end
theorem texts_at {w : World} {a : Addr} {ss : List ByteArray} {cap : Nat} (h : ∀ i, i < cap → w.cell? (a.add i) = some (.string (ss.getD i ByteArray.empty))) (hp : 0 < cap) :
    ∃ b off, a = ⟨b, off, none⟩ ∧ ∀ j, j < cap → w.cell? ⟨b, off + j, none⟩ = some (.string (ss.getD j ByteArray.empty)) := by
  obtain ⟨b, off, spot⟩ := a
  have hspot : spot = none := by simpa [Addr.add] using World.cell?_spot (h 0 hp)
  subst hspot
  exact ⟨b, off, rfl, fun j hj => by rw [← Go.WideShapes.add_plain]; exact h j hj⟩
/-- What a walk is told of a slice of strings that came in. -/
theorem texts_facts {w : World} {a : Option Addr} {len cap : Nat} {ss : List ByteArray} (h : IsTexts w a len cap ss) :
    ∃ b off, len ≤ 9223372036854775807 ∧ (0 < len → a = some ⟨b, off, none⟩) ∧ ∀ j, j < len → ∃ s, s.size ≤ maxLen ∧ w.cell? ⟨b, off + j, none⟩ = some (.string s) := by
  rcases h with ⟨_, h0, _⟩ | ⟨x, rfl, hlc, hcm, hn, hcell, hsz⟩
  · exact ⟨0, 0, by omega, by omega, by omega⟩
  · unfold maxLen at hcm
    by_cases h0 : 0 < cap
    · obtain ⟨b, off, rfl, hc⟩ := texts_at (cap := cap) (by rw [← hn]; exact hcell) h0
      refine ⟨b, off, by omega, fun _ => rfl, fun j hj => ⟨_, ?_, hc j (by omega)⟩⟩
      rw [List.getD, List.getElem?_eq_getElem (by omega)]
      exact hsz _ (List.getElem_mem _)
    · exact ⟨0, 0, by omega, by omega, by omega⟩

set_option maxHeartbeats 2000000 in
theorem internBack_walk (a : Option Addr) (len cap : Nat) (ss : List ByteArray) (w : World) (hrow : IsTexts w a len cap ss) :
    Calls Try.prog 5 #[.slice a len cap] w fun e w' => e = .returned (.bool true) ∧ Below w.heap.size w w' := by
  obtain ⟨b, off, hlm, hcap, hc⟩ := texts_facts hrow
  have HC := Lib.hid hc
  have HA := Lib.hid hcap
  clear hrow hc hcap
  go_enter Try.func5, Try.ntmps5
  go_wp2_with fail
  refine (new_table 200 _).mono ?_
  rintro e w0 ⟨rfl, t0, b0⟩
  have T0 := Lib.hid t0
  clear t0
  go_wp2_with fail
  go_loopw [4] (fun i wr => ∃ k : Nat, k ≤ len ∧ k ≤ 100 ∧ i = .int .i64 k ∧ Below w.heap.size w wr ∧ ∃ a' cap' ns, ns.length ≤ k ∧ Hid (Tab wr w.heap.size (w.heap.size + 1) w.heap.size a' cap' 200 ns)) (fun i _ => len - (intOf i).toNat)
  case atStart => exact ⟨0, by omega, by omega, rfl, b0, none, 0, [], Nat.le_refl _, T0⟩
  case round =>
    obtain ⟨k, hk, hk100, rfl, hB, a', cap', ns, hns, HT⟩ := hrel
    clear T0 b0
    by_cases hlt : k < len
    · by_cases h100 : k < 100
      · have hd1 : decide ((k : Int) < len) = true := decide_eq_true (by omega)
        have ha := HA.out (by omega)
        subst ha
        obtain ⟨s, hsz, hcell⟩ := HC.out k hlt
        have hbw := World.block_lt_of_cell? _ _ hcell
        have hcw : wr.cell? ⟨b, off + k, none⟩ = some (.string s) := (hB.cell hbw).trans hcell
        by_cases hin : s ∈ ns
        · have HI := Lib.hid hin
          obtain ⟨q, hq⟩ : ∃ q, pos ns s = q := ⟨_, rfl⟩
          have hg := pos_get hin
          have hql := pos_lt hin
          rw [hq] at hg hql
          have HG := Lib.hid hg
          have HQ := Lib.hid hq
          obtain ⟨L, hL⟩ : ∃ L : Nat, ns.length = L := ⟨_, rfl⟩
          have HL := Lib.hid (show (ns.length : Int) = (L : Int) by rw [hL])
          have dq : decide ((L : Int) ≤ (q : Int)) = false := decide_eq_false (by omega)
          have hB' := Lib.hid hB
          clear hin hcell hg hq hB
          go_wp2_with fail
          refine (add_q HT.out s hsz HI.out q HQ.out).mono ?_
          rintro e w1 ⟨rfl, rfl⟩
          go_wp2_with (first
            | (go_at_call 15; refine (name_at HT.out q s HG.out).mono ?_; rintro e w3 ⟨rfl, rfl⟩)
            | (go_at_call 12; refine (find_q HT.out s hsz HI.out q HQ.out).mono ?_; rintro e w3 ⟨rfl, rfl⟩)
            | (go_at_call 14; refine (len_as HT.out L HL.out).mono ?_; rintro e w3 ⟨rfl, rfl⟩)
            | go_in)
          go_roundw
          case rel => exact ⟨k + 1, by omega, by omega, by go_num, hB'.out, a', cap', ns, by omega, HT⟩
          case measure => simp [intOf]; omega
        · have HI := Lib.hid hin
          obtain ⟨q, hq⟩ : ∃ q, ns.length = q := ⟨_, rfl⟩
          have HQ := Lib.hid hq
          have HP := Lib.hid (show pos (ns ++ [s]) s = q by rw [pos_new hin, hq])
          have HG := Lib.hid (show (ns ++ [s])[q]? = some s by rw [← hq]; simp)
          have HM := Lib.hid (show s ∈ ns ++ [s] by simp)
          have HL := Lib.hid (show ((ns ++ [s]).length : Int) = (q : Int) + 1 by simp [hq])
          have dq : decide ((q : Int) + 1 ≤ (q : Int)) = false := decide_eq_false (by omega)
          have hB' := Lib.hid hB
          have hsz1 := hB.size
          clear hin hcell hq hB
          go_wp2_with fail
          refine (add_l HT.out hsz1 s hsz HI.out (by omega) (by omega) q HQ.out).mono ?_
          rintro e w1 ⟨rfl, a1, cap1, t1, _, b1, _⟩
          have T1 := Lib.hid t1
          have hB1 := hB'.out.trans b1
          have hcw1 : w1.cell? ⟨b, off + k, none⟩ = some (.string s) := (b1.cell hbw).trans hcw
          have HB1 := Lib.hid hB1
          have hl1 : (ns ++ [s]).length ≤ k + 1 := by simp; omega
          have HL1 := Lib.hid hl1
          clear t1 b1 hcw HT hB1 hl1 hB'
          go_wp2_with (first
            | (go_at_call 15; refine (name_at T1.out q s HG.out).mono ?_; rintro e w3 ⟨rfl, rfl⟩)
            | (go_at_call 12; refine (find_q T1.out s hsz HM.out q HP.out).mono ?_; rintro e w3 ⟨rfl, rfl⟩)
            | (go_at_call 14; refine (len_as T1.out ((q : Int) + 1) HL.out).mono ?_; rintro e w3 ⟨rfl, rfl⟩)
            | go_in)
          go_roundw
          case rel => exact ⟨k + 1, by omega, by omega, by go_num, HB1.out, a1, cap1, ns ++ [s], HL1.out, T1⟩
          case measure => simp [intOf]; omega
      · have hd1 : decide ((k : Int) < len) = true := decide_eq_true (by omega)
        have hd2 : decide ((k : Int) < 100) = false := decide_eq_false (by omega)
        go_wp2_with fail
        refine (awake06 _).mono ?_
        rintro e w1 ⟨rfl, hb1⟩
        go_wp2
        go_ret
        exact ⟨rfl, hB.trans (hb1.mono hB.size)⟩
    · have hd1 : decide ((k : Int) < len) = false := decide_eq_false (by omega)
      go_wp2_with fail
      refine (awake06 _).mono ?_
      rintro e w1 ⟨rfl, hb1⟩
      go_wp2
      go_ret
      exact ⟨rfl, hB.trans (hb1.mono hB.size)⟩
end Go.Proofs.Ythoakigbjhlabab
