/- The law on turned bits, walked. -/
import Derived.Test.YtndgpdpabjaedaaFrTurnM
namespace Go.Proofs.Ytndgpdpabjaedaa
open Go.RowKit
set_option linter.unusedSimpArgs false

set_option maxHeartbeats 2000000 in
theorem frameTurned_out (r : Rc) (ta tu : Int) (w : World) (hok : RecOk r) (h : 1100 < wrap64 ((r.host.size : Int) + (r.path.size : Int)) ∨ tu = 0) : Calls Try.prog 7 #[.agg #[.int .i64 r.kind, .int .i64 r.id, .string r.host, .string r.path, .int .i64 r.prio, .int .i64 r.till], .int .u16 ta, .int .u32 tu] w fun e w' => e = .returned (.bool true) ∧ Below w.heap.size w w' := by
  obtain ⟨_, _, _, _, hh, hp⟩ := hok
  obtain ⟨W, hW⟩ : ∃ W, wrap64 ((r.host.size : Int) + (r.path.size : Int)) = W := ⟨_, rfl⟩
  rw [hW] at h
  have hz : Below w.heap.size w (w.alloc (.cells #[.int .i64 r.kind, .int .i64 r.id, .string r.host, .string r.path, .int .i64 r.prio, .int .i64 r.till] 25)) := (Below.refl _ _).alloc (Nat.le_refl _) _
  by_cases hd : 1100 < W
  · have hd1 : decide (1100 < W) = true := decide_eq_true hd
    clear h
    go_enter Try.func7, Try.ntmps7
    go_wp2_with fail
    refine (awake14 _).mono ?_
    rintro e w1 ⟨rfl, hb1⟩
    go_wp2_with fail
    go_ret
    exact ⟨rfl, hz.trans (hb1.mono (by simp))⟩
  · have hd1 : decide (1100 < W) = false := decide_eq_false hd
    have hd2 : (tu == 0) = true := by simpa using h.resolve_left hd
    clear h
    go_enter Try.func7, Try.ntmps7
    go_wp2_with fail
    refine (awake14 _).mono ?_
    rintro e w1 ⟨rfl, hb1⟩
    go_wp2_with fail
    go_ret
    exact ⟨rfl, hz.trans (hb1.mono (by simp))⟩

set_option maxHeartbeats 2000000 in
theorem frameTurned_no (r : Rc) (ta tu : Int) (w : World) (hok : RecOk r) (h : ¬ 1100 < wrap64 ((r.host.size : Int) + (r.path.size : Int))) (ht : tu ≠ 0) (hs : ¬ soundR r) : Calls Try.prog 7 #[.agg #[.int .i64 r.kind, .int .i64 r.id, .string r.host, .string r.path, .int .i64 r.prio, .int .i64 r.till], .int .u16 ta, .int .u32 tu] w fun e w' => e = .returned (.bool true) ∧ Below w.heap.size w w' := by
  obtain ⟨_, _, _, _, hh, hp⟩ := hok
  obtain ⟨W, hW⟩ : ∃ W, wrap64 ((r.host.size : Int) + (r.path.size : Int)) = W := ⟨_, rfl⟩
  rw [hW] at h
  have hz : Below w.heap.size w (w.alloc (.cells #[.int .i64 r.kind, .int .i64 r.id, .string r.host, .string r.path, .int .i64 r.prio, .int .i64 r.till] 25)) := (Below.refl _ _).alloc (Nat.le_refl _) _
  have hd1 : decide (1100 < W) = false := decide_eq_false h
  have hd2 : (tu == 0) = false := by simpa using ht
  clear h ht
  go_enter Try.func7, Try.ntmps7
  go_wp2_with fail
  refine (enc_no r _ hs).mono ?_
  rintro e w1 ⟨rfl, hb1⟩
  have B1 : Below w.heap.size w w1 := hz.trans (hb1.mono (by simp))
  go_wp2_with fail
  refine (awake14 _).mono ?_
  rintro e w2 ⟨rfl, hb2⟩
  go_wp2_with fail
  go_ret
  exact ⟨rfl, B1.trans (hb2.mono B1.size)⟩

set_option maxHeartbeats 2000000 in
theorem frameTurned_main (r : Rc) (ta tu : Int) (w : World) (hok : RecOk r) (ht : tu ≠ 0) (hs : soundR r) (ha0 : 0 ≤ ta) (ha1 : ta < 65536) (ht0 : 0 ≤ tu) (ht1 : tu < 4294967296) : Calls Try.prog 7 #[.agg #[.int .i64 r.kind, .int .i64 r.id, .string r.host, .string r.path, .int .i64 r.prio, .int .i64 r.till], .int .u16 ta, .int .u32 tu] w fun e w' => e = .returned (.bool true) ∧ Below w.heap.size w w' := by
  have hfit := hok.fit
  obtain ⟨_, _, _, _, _, _, hh, hp⟩ := id hs
  obtain ⟨E, hE⟩ : ∃ E, encR r = E := ⟨_, rfl⟩
  obtain ⟨n, hn⟩ : ∃ n, E.length = n := ⟨_, rfl⟩
  have hnb : n ≤ 3000 ∧ 26 ≤ n := by
    rw [← hn, ← hE]
    refine ⟨?_, encR_ge r⟩
    unfold encR
    rw [recB_length, contR_length]
    omega
  obtain ⟨hn1, hn2⟩ := hnb
  have hm0 := Int.emod_nonneg ta (show (n : Int) - 9 ≠ 0 by omega)
  have hm1 := Int.emod_lt_of_pos ta (show (0 : Int) < (n : Int) - 9 by omega)
  obtain ⟨q, hq⟩ : ∃ q : Nat, ta % ((n : Int) - 9) = q := ⟨(ta % ((n : Int) - 9)).toNat, by omega⟩
  have hqn : q + 10 ≤ n := by omega
  have hdec : decR (turnL E (6 + q) tu 4) = none ∧ Byts (turnL E (6 + q) tu 4) := by
    have h1 : ((BitVec.ofInt 32 tu).toNat : Int) = tu := by rw [BitVec.toNat_ofInt]; omega
    have := turned_none hs (i := 6 + q) (by omega) (by rw [hE, hn]; omega) (BitVec.ofInt 32 tu) (fun e => by rw [e] at h1; simp at h1; omega)
    rwa [hE, h1] at this
  obtain ⟨hdn, hdb⟩ := hdec
  have HD := Lib.hid hdn
  have HDB := Lib.hid hdb
  have HE := Lib.hid hE
  have HN := Lib.hid hn
  have hd1 : decide (1100 < (r.host.size : Int) + (r.path.size : Int)) = false := decide_eq_false (by omega)
  have hd2 : (tu == 0) = false := by simpa using ht
  have hd3 : decide ((n : Int) < 10) = false := decide_eq_false (by omega)
  have hd4 : decide (n < 10) = false := decide_eq_false (by omega)
  have hqt : Int.tmod ta ((n : Int) - 9) = q := by rw [Int.tmod_eq_emod_of_nonneg ha0, hq]
  clear hE hn hdn hdb ht hm0 hm1
  go_enter Try.func7, Try.ntmps7
  go_wp2_with fail
  refine (enc_as r E n HE.out HN.out _ hs).mono ?_
  rintro e w1 ⟨g1, c1, rfl, ho1, hb1⟩
  have B1 : Below w.heap.size w w1 := ((Below.refl _ _).alloc (Nat.le_refl _) _).trans (hb1.mono (by simp))
  have hgl : w.heap.size ≤ g1 := by
    obtain ⟨h, _⟩ | ⟨g, h, hg, _⟩ := ho1.form
    · cases h
    · injection h with h
      injection h with h
      subst h
      simp at hg
      omega
  have hcap := ho1.cap_le
  rw [HN.out] at hcap
  have HO1 := Lib.hid (ho1.mono (show w.heap.size ≤ _ by simp))
  clear ho1 hb1
  go_wp2_with fail
  have HS : Hid (Scanned (turnL E (6 + q) tu 4) [] 0) := Lib.hid ⟨by simp, rfl, by simp [flatR], by simpa using HD.out⟩
  go_loopw [10] (fun vk wx => ∃ k : Nat, k ≤ 4 ∧ vk = .int .i64 k ∧ Hid (OwnB wx w.heap.size (some ⟨g1, 0, none⟩) c1 (turnL E (6 + q) tu k)) ∧ Hid (Below w.heap.size w wx)) (fun vk _ => 4 - (intOf vk).toNat)
  case atStart => exact ⟨0, by omega, rfl, HO1, Lib.hid B1⟩
  case round =>
    obtain ⟨k, hk, rfl, HO, HB⟩ := hrel
    by_cases hlt : k < 4
    · have hd5 : decide ((k : Int) < 4) = true := decide_eq_true (by omega)
      obtain ⟨c, hc⟩ : ∃ c, E[6 + q + k]? = some c := ⟨_, List.getElem?_eq_getElem (by rw [HN.out]; omega)⟩
      have HNX : Hid ((turnL E (6 + q) tu k).set (6 + q + k) (bits .xor .u8 c (tu / 2 ^ (8 * k) % 256)) = turnL E (6 + q) tu (k + 1)) := Lib.hid (by rw [turnL, List.getD_eq_getElem?_getD, hc]; rfl)
      have hcell : wr.cell? ⟨g1, 6 + q + k, none⟩ = some (.int .u8 c) := by
        have := HO.out.rd.cells (6 + q + k) c (by rw [turnL_at _ _ _ _ _ (Nat.le_refl _), hc])
        rwa [Nat.zero_add] at this
      have hfz : wr.frozen? ⟨g1, 6 + q + k, none⟩ = false := World.ownsRow.frozenAt HO.out (6 + q + k)
      have hlt2 : 6 + (q : Int) + (k : Int) < n := by omega
      have HST := Lib.hid (HO.out.stored (6 + q + k) (bits .xor .u8 c (tu / 2 ^ (8 * k) % 256)))
      rw [HNX.out] at HST
      have HB2 := Lib.hid (HB.out.setCell (p := ⟨g1, 6 + q + k, none⟩) hgl (.int .u8 (bits .xor .u8 c (tu / 2 ^ (8 * k) % 256))))
      clear hc HNX
      go_wp2_with fail
      go_roundw
      case rel => exact ⟨k + 1, by omega, by go_num, HST, HB2⟩
      case measure => simp [intOf]; omega
    · have hd5 : decide ((k : Int) < 4) = false := decide_eq_false (by omega)
      obtain rfl : k = 4 := by omega
      have HLN : Hid ((turnL E (6 + q) tu 4).length = n) := Lib.hid (by rw [turnL_length, HN.out])
      go_wp2_with fail
      refine (scan_as _ [] 0 0 HS.out rfl n _ _ _ HLN.out HO.out.rd HDB.out hcap (by omega) (Or.inr ⟨_, _, rfl⟩)).mono ?_
      rintro e w2 ⟨a2, c2, rfl, hr2, hk2, hb2⟩
      have B2 := HB.out.trans (hb2.mono HB.out.size)
      go_wp2_with fail
      refine (awake14 _).mono ?_
      rintro e w3 ⟨rfl, hb3⟩
      go_wp2_with fail
      go_ret
      exact ⟨rfl, B2.trans (hb3.mono B2.size)⟩

theorem frameTurned_walk (r : Rc) (ta tu : Int) (w : World) (hok : RecOk r) (h1 : (Lit.int .u16 ta).wf = true) (h2 : (Lit.int .u32 tu).wf = true) : Calls Try.prog 7 #[.agg #[.int .i64 r.kind, .int .i64 r.id, .string r.host, .string r.path, .int .i64 r.prio, .int .i64 r.till], .int .u16 ta, .int .u32 tu] w fun e w' => e = .returned (.bool true) ∧ Below w.heap.size w w' := by
  simp [Lit.wf, IntKind.min, IntKind.max, IntKind.signed, IntKind.bits] at h1 h2
  by_cases ht : tu = 0
  · exact frameTurned_out r ta tu w hok (Or.inr ht)
  · by_cases hs : soundR r
    · exact frameTurned_main r ta tu w hok ht hs (by omega) (by omega) (by omega) (by omega)
    · by_cases h : 1100 < wrap64 ((r.host.size : Int) + (r.path.size : Int))
      · exact frameTurned_out r ta tu w hok (Or.inl h)
      · exact frameTurned_no r ta tu w hok h ht hs
end Go.Proofs.Ytndgpdpabjaedaa
