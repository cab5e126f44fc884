/- Package frame: what the laws ask of it; the fixed fact. -/
import Derived.Test.YtndgpdpabjaedaaFrDoc
namespace Go.Proofs.Ytndgpdpabjaedaa
open Go.RowKit
set_option linter.unusedSimpArgs false

theorem enc_as (r : Rc) (E : List Int) (n : Nat) (hE : encR r = E) (hn : E.length = n) (w : World) (h : soundR r) :
    Calls Try.prog 10 #[.agg (recL r).toArray] w fun e w' => ∃ g cap', e = .returned (.tuple #[.slice (some ⟨g, 0, none⟩) n cap', .int .i64 0]) ∧ OwnB w' w.heap.size (some ⟨g, 0, none⟩) cap' E ∧ Below w.heap.size w w' := by
  subst hE
  subst hn
  refine (enc_yes r w h).mono ?_
  rintro e w' ⟨a', cap', rfl, ho, hb⟩
  obtain ⟨_, h0, _⟩ | ⟨g, rfl, _⟩ := ho.form
  · have := encR_ge r
    rw [h0] at this
    simp at this
  · exact ⟨g, cap', rfl, ho, hb⟩
theorem record_as (r : Rc) (E : List Int) (n : Nat) (hE : encR r = E) (hn : E.length = n) (w : World) (h : soundR r) :
    Calls Try.prog 13 #[.int .i64 r.kind, .agg (reqL r).toArray] w fun e w' => ∃ g cap', e = .returned (.slice (some ⟨g, 0, none⟩) n cap') ∧ OwnB w' w.heap.size (some ⟨g, 0, none⟩) cap' E ∧ Below w.heap.size w w' := by
  subst hE
  subst hn
  refine (record_at r w h).mono ?_
  rintro e w' ⟨a', cap', rfl, ho, hb⟩
  obtain ⟨_, h0, _⟩ | ⟨g, rfl, _⟩ := ho.form
  · have := encR_ge r
    rw [h0] at this
    simp at this
  · exact ⟨g, cap', rfl, ho, hb⟩
/-- What is read is known where one way to read it is known. -/
theorem scan_as (l : List Int) (rs : List Rc) (n k : Nat) (hS : Scanned l rs n) (hk : rs.length = k) (len : Nat) (a : Option Addr) (cap : Nat) (w : World) (hn : l.length = len) (hr : RdB w a l) (hb : Byts l) (hc : len ≤ cap) (hl : len < 1000000) (hp : cap = 0 ∨ ∃ b off, a = some ⟨b, off, none⟩) :
    Calls Try.prog 12 #[.slice a len cap] w fun e w' => ∃ a' cap', e = .returned (.tuple #[.slice a' k cap', .int .i64 n]) ∧ RdR w' a' rs ∧ k ≤ cap' ∧ Below w.heap.size w w' := by
  subst hk
  refine (scan_at l len a cap w hn hr hb hc hl hp).mono ?_
  rintro e w' ⟨rs', n', a', cap', rfl, hS', ho, _, _, hbl⟩
  obtain ⟨rfl, rfl⟩ := hS.one hS'
  exact ⟨a', cap', rfl, ho.rd, ho.cap_le, hbl⟩
theorem RdR.first {w : World} {a : Option Addr} {r : Rc} {rs : List Rc} (h : RdR w a (r :: rs)) : ∃ b off, a = some ⟨b, off, none⟩ ∧ w.cell? ⟨b, off, none⟩ = some (.int .i64 r.kind) ∧ w.cell? ⟨b, off + 1, none⟩ = some (.int .i64 r.id) ∧ w.cell? ⟨b, off + 2, none⟩ = some (.string r.host) ∧ w.cell? ⟨b, off + 3, none⟩ = some (.string r.path) ∧ w.cell? ⟨b, off + 4, none⟩ = some (.int .i64 r.prio) ∧ w.cell? ⟨b, off + 5, none⟩ = some (.int .i64 r.till) := by
  rcases h with h | ⟨b, off, ha, hc⟩
  · cases h
  · have h0 := hc 0 r rfl
    simp only [Nat.zero_mul, Nat.add_zero] at h0
    exact ⟨b, off, ha, h0 0 _ rfl, h0 1 _ rfl, h0 2 _ rfl, h0 3 _ rfl, h0 4 _ rfl, h0 5 _ rfl⟩
theorem RdR.cells0 {w : World} {b off : Nat} {r : Rc} {rs : List Rc} (h : RdR w (some ⟨b, off, none⟩) (r :: rs)) : w.cell? ⟨b, off, none⟩ = some (.int .i64 r.kind) ∧ w.cell? ⟨b, off + 1, none⟩ = some (.int .i64 r.id) ∧ w.cell? ⟨b, off + 2, none⟩ = some (.string r.host) ∧ w.cell? ⟨b, off + 3, none⟩ = some (.string r.path) ∧ w.cell? ⟨b, off + 4, none⟩ = some (.int .i64 r.prio) ∧ w.cell? ⟨b, off + 5, none⟩ = some (.int .i64 r.till) := by
  obtain ⟨b', off', ha, h⟩ := h.first
  injection ha with ha
  injection ha with h1 h2
  subst h1
  subst h2
  exact h
theorem scanned_one {r : Rc} (h : soundR r) (hf : FitR r) {rest : List Int} (hr : decR rest = none) : Scanned (encR r ++ rest) [r] (encR r).length := by
  refine ⟨fun x hx => ?_, by simp [flatR], ?_, ?_⟩
  · rw [List.mem_singleton.1 hx]
    exact ⟨h, hf⟩
  · rw [List.drop_left' rfl]
    simp [flatR]
  · rw [List.drop_left' rfl, hr]
theorem decR_nil : decR [] = none := by unfold decR; rw [if_pos (by decide)]
theorem encR_byts {r : Rc} (h : soundR r) : Byts (encR r) := recB_byts (contR_byts h)

def r0 : Rc := ⟨1, 5, ⟨#[104, 116, 116, 112, 58, 47, 47, 97]⟩, ⟨#[47, 98]⟩, 2, 9⟩
theorem r0_sound : soundR r0 := by decide
theorem r0_fit : FitR r0 := by unfold FitR; decide
theorem sum_nine : sumC [49, 50, 51, 52, 53, 54, 55, 56, 57] = 3421780262#32 := by decide +kernel
theorem sum_none : sumC [] = 0#32 := by decide +kernel

set_option maxHeartbeats 2000000 in
theorem awake14 (w : World) :
    Calls Try.prog 9 #[] w fun e w' => e = .returned (.bool true) ∧ Below w.heap.size w w' := by
  obtain ⟨E, hE⟩ : ∃ E, encR r0 = E := ⟨_, rfl⟩
  have hn : E.length = 36 := by rw [← hE]; unfold encR; rw [recB_length, contR_length]; rfl
  have hby : Byts E := hE ▸ encR_byts r0_sound
  have hS : Scanned (E ++ E.take 18) [r0] 36 := by
    have := scanned_one r0_sound r0_fit (rest := (encR r0).take 18) (dec_short r0_sound (by rw [hE]; omega))
    rw [hE, hn] at this
    exact this
  obtain ⟨F, hF⟩ : ∃ F, E ++ E.take 18 = F := ⟨_, rfl⟩
  have hFn : F.length = 54 := by rw [← hF, List.length_append, List.length_take]; omega
  have hFb : Byts F := hF ▸ hby.append (hby.take 18)
  rw [hF] at hS
  have h18 : (E.take 18).length = 18 := by rw [List.length_take]; omega
  have HE := Lib.hid hE
  have HN := Lib.hid hn
  have HS := Lib.hid hS
  have HF := Lib.hid hF
  have HFN := Lib.hid hFn
  have HFB := Lib.hid hFb
  have H18 := Lib.hid h18
  clear hE hn hby hS hF hFn hFb h18
  go_enter Try.func9, Try.ntmps9
  go_wp2_with fail
  refine (enc_as r0 E 36 HE.out HN.out _ r0_sound).mono ?_
  rintro e w1 ⟨g1, c1, rfl, ho1, hb1⟩
  have z1 : Box w1 w.heap.size #[.int .i64 1, .int .i64 5, .string ⟨#[104, 116, 116, 112, 58, 47, 47, 97]⟩, .string ⟨#[47, 98]⟩, .int .i64 2, .int .i64 9] 25 := (Box.new w #[.int .i64 1, .int .i64 5, .string ⟨#[104, 116, 116, 112, 58, 47, 47, 97]⟩, .string ⟨#[47, 98]⟩, .int .i64 2, .int .i64 9] 25).later hb1
  have B1 : Below w.heap.size w w1 := ((Below.refl _ _).alloc (Nat.le_refl _) _).trans (hb1.mono (by simp))
  have hcap := ho1.cap_le
  rw [HN.out] at hcap
  have HO1 := Lib.hid ho1
  clear hb1 ho1
  go_wp2_with fail
  go_cut [4, 5] (fun v4 v5 wx => ∃ g off c, v4 = .slice (some ⟨g, off, none⟩) 1 c ∧ v5 = .int .i64 36 ∧ 1 ≤ c ∧ Hid (Box wx w.heap.size #[.int .i64 1, .int .i64 5, .string ⟨#[104, 116, 116, 112, 58, 47, 47, 97]⟩, .string ⟨#[47, 98]⟩, .int .i64 2, .int .i64 9] 25) ∧ Hid (Below w.heap.size w wx) ∧ Hid (RdR wx (some ⟨g, off, none⟩) [r0]))
  case first =>
    have hc18 : (18 : Int) ≤ (c1 : Int) := by omega
    have hc18n : 18 ≤ c1 := by omega
    have hw18 : IntKind.i64.wrap 18 = 18 := by decide
    refine wp_region_last 14 (fun w' => Below w1.heap.size w1 w') (by kernel_rfl) (Below.drew (Below.refl _ _)) (fun hHeld hClosed => ?_)
    refine wpAnyL_take (i := 1) (v := ?_) rfl (by kernel_rfl) (by kernel_rfl) (by kernel_rfl) (by kernel_rfl) (fun _ _ _ h => h) (by kernel_rfl) hClosed (Or.inl ⟨by rfl, ?_⟩) hHeld (fun hClosed => ?_)
    rotate_left
    · intro wv hSw; go_simp; all_goals (with_reducible rfl)
    (try simp only [List.getElem_toArray, List.getElem_cons_succ, List.getElem_cons_zero, put_at, List.set])
    refine wpAnyL_take (i := 3) (v := ?_) rfl (by kernel_rfl) (by kernel_rfl) (by kernel_rfl) (by kernel_rfl) (fun _ _ _ h => h) (by kernel_rfl) hClosed (Or.inl ⟨by rfl, ?_⟩) hHeld (fun hClosed => ?_)
    rotate_left
    · intro wv hSw; go_simp; all_goals (with_reducible rfl)
    (try simp only [List.getElem_toArray, List.getElem_cons_succ, List.getElem_cons_zero, put_at, List.set])
    refine wpAnyL_take (i := 4) (v := ?_) rfl (by kernel_rfl) (by kernel_rfl) (by kernel_rfl) (by kernel_rfl) (fun _ _ _ h => h) (by kernel_rfl) hClosed (Or.inl ⟨by rfl, ?_⟩) hHeld (fun hClosed => ?_)
    rotate_left
    · intro wv hSw; go_simp; all_goals (with_reducible rfl)
    (try simp only [List.getElem_toArray, List.getElem_cons_succ, List.getElem_cons_zero, put_at, List.set])
    refine wpAnyL_take (i := 5) (v := ?_) rfl (by kernel_rfl) (by kernel_rfl) (by kernel_rfl) (by kernel_rfl) (fun _ _ _ h => h) (by kernel_rfl) hClosed (Or.inl ⟨by rfl, ?_⟩) hHeld (fun hClosed => ?_)
    rotate_left
    · intro wv hSw; go_simp; all_goals (with_reducible rfl)
    (try simp only [List.getElem_toArray, List.getElem_cons_succ, List.getElem_cons_zero, put_at, List.set])
    refine wpAnyL_take (i := 6) (v := ?_) rfl (by kernel_rfl) (by kernel_rfl) (by kernel_rfl) (by kernel_rfl) (fun _ _ _ h => h) (by kernel_rfl) hClosed (Or.inl ⟨by rfl, ?_⟩) hHeld (fun hClosed => ?_)
    rotate_left
    · intro wv hSw; go_simp; all_goals (with_reducible rfl)
    (try simp only [List.getElem_toArray, List.getElem_cons_succ, List.getElem_cons_zero, put_at, List.set])
    refine wpAnyL_take (i := 7) (v := ?_) rfl (by kernel_rfl) (by kernel_rfl) (by kernel_rfl) (by kernel_rfl) (fun _ _ _ h => h) (by kernel_rfl) hClosed (Or.inl ⟨by rfl, ?_⟩) hHeld (fun hClosed => ?_)
    rotate_left
    · intro wv hSw; go_simp; all_goals (with_reducible rfl)
    (try simp only [List.getElem_toArray, List.getElem_cons_succ, List.getElem_cons_zero, put_at, List.set])
    refine wpAnyL_one (i := 0) rfl (by kernel_rfl) (by kernel_rfl) hClosed (fun KK hK => ?_)
    go_simp
    refine hK.out _ _ ?_ (fun hClosed hHeld => ?_)
    · exact hHeld.alloc hHeld.size _
    clear hK KK
    (first | simp only [List.getElem_toArray, List.getElem_cons_zero, put_at, List.set] | (try simp only [put_at, List.set]))
    refine last_forget (fun w' => (Below w1.heap.size w1 w') ∧ OwnB w' w1.heap.size (some ⟨w1.heap.size, 0, none⟩) 0 []) ⟨hHeld, (OwnB.lit (w := w1) [] (Nat.le_refl _) (by simp)).drew⟩ ?_
    clear hHeld
    rintro w3 ⟨hHeld, hL⟩
    refine wpAnyL_one (i := 2) rfl (by kernel_rfl) (by kernel_rfl) hClosed (fun KK hK => ?_)
    refine step_app3 rfl _ _ rfl w1.heap.size (some ⟨w1.heap.size, 0, none⟩) 0 0 [] E E 36 36 rfl rfl HN.out HN.out (by decide) rfl hL g1 0 c1 rfl (HO1.out.rd.later hHeld) (by decide) hHeld.size ?_
    intro g4 c4 w4 ho4 hb4
    refine hK.out _ _ ?_ (fun hClosed hHeld => ?_)
    · exact hHeld.trans hb4
    clear hK KK
    (first | simp only [List.getElem_toArray, List.getElem_cons_succ, List.getElem_cons_zero, put_at, List.set] | (try simp only [put_at, List.set]))
    refine wpAnyL_one (i := 8) rfl (by kernel_rfl) (by kernel_rfl) hClosed (fun KK hK => ?_)
    refine step_app3 rfl _ _ rfl w1.heap.size (some ⟨g4, 0, none⟩) 36 c4 E (E.take 18) F 18 54 HF.out HN.out H18.out HFN.out (by decide) rfl ho4 g1 0 c1 rfl ((HO1.out.rd.later hHeld).take 18) (by decide) hHeld.size ?_
    intro g5 c5 w5 ho5 hb5
    refine hK.out _ _ ?_ (fun hClosed hHeld => ?_)
    · exact hHeld.trans hb5
    clear hK KK
    (first | simp only [List.getElem_toArray, List.getElem_cons_succ, List.getElem_cons_zero, put_at, List.set] | (try simp only [put_at, List.set]))
    have hc5 := ho5.cap_le
    rw [HFN.out] at hc5
    refine wpAnyL_one (i := 9) rfl (by kernel_rfl) (by kernel_rfl) hClosed (fun KK hK => ?_)
    go_simp
    refine (scan_as F [r0] 36 1 HS.out rfl 54 _ _ _ HFN.out ho5.rd HFB.out hc5 (by decide) (Or.inr ⟨_, _, rfl⟩)).mono ?_
    rintro e w9 ⟨a9, c9, rfl, hr9, hk9, hb9⟩
    obtain ⟨g9, o9, rfl, _⟩ := hr9.first
    go_wp2_with fail
    refine hK.out _ _ ?_ (fun hClosed hHeld => ?_)
    · exact hHeld.trans (hb9.mono hHeld.size)
    clear hK KK
    (first | simp only [List.getElem_toArray, List.getElem_cons_succ, List.getElem_cons_zero, put_at, List.set] | (try simp only [put_at, List.set]))
    refine wpAnyL_take (i := 10) (v := ?_) rfl (by kernel_rfl) (by kernel_rfl) (by kernel_rfl) (by kernel_rfl) (fun _ _ _ h => h) (by kernel_rfl) hClosed (Or.inl ⟨by rfl, ?_⟩) hHeld (fun hClosed => ?_)
    rotate_left
    · intro wv hSw; go_simp; all_goals (with_reducible rfl)
    (try simp only [List.getElem_toArray, List.getElem_cons_succ, List.getElem_cons_zero, put_at, List.set])
    refine wpAnyL_take (i := 11) (v := ?_) rfl (by kernel_rfl) (by kernel_rfl) (by kernel_rfl) (by kernel_rfl) (fun _ _ _ h => h) (by kernel_rfl) hClosed (Or.inl ⟨by rfl, ?_⟩) hHeld (fun hClosed => ?_)
    rotate_left
    · intro wv hSw; go_simp; all_goals (with_reducible rfl)
    (try simp only [List.getElem_toArray, List.getElem_cons_succ, List.getElem_cons_zero, put_at, List.set])
    refine wpAnyL_take (i := 12) (v := ?_) rfl (by kernel_rfl) (by kernel_rfl) (by kernel_rfl) (by kernel_rfl) (fun _ _ _ h => h) (by kernel_rfl) hClosed (Or.inl ⟨by rfl, ?_⟩) hHeld (fun hClosed => ?_)
    rotate_left
    · intro wv hSw; go_simp; all_goals (with_reducible rfl)
    (try simp only [List.getElem_toArray, List.getElem_cons_succ, List.getElem_cons_zero, put_at, List.set])
    refine wpAnyL_take (i := 13) (v := ?_) rfl (by kernel_rfl) (by kernel_rfl) (by kernel_rfl) (by kernel_rfl) (fun _ _ _ h => h) (by kernel_rfl) hClosed (Or.inl ⟨by rfl, ?_⟩) hHeld (fun hClosed => ?_)
    rotate_left
    · intro wv hSw; go_simp; all_goals (with_reducible rfl)
    (try simp only [List.getElem_toArray, List.getElem_cons_succ, List.getElem_cons_zero, put_at, List.set])
    refine wpAnyL_last rfl (by kernel_rfl) (by kernel_rfl) (fun KK hK => ?_)
    go_simp
    refine hK.out _ _ ?_
    (try simp only [put_at, List.set])
    go_wp2_with fail
    go_meet
    exact ⟨g9, o9, c9, rfl, rfl, hk9, Lib.hid (z1.later hHeld), Lib.hid (B1.trans (hHeld.mono B1.size)), Lib.hid hr9⟩
  case rest =>
  obtain ⟨g, off, c, rfl, rfl, hc, HZ, HB, HR⟩ := hcut
  clear HO1 B1 z1
  go_wp2_with fail
  refine wp_region_last 30 (fun w' => Below wc.heap.size wc w') (by kernel_rfl) (Below.drew (Below.refl _ _)) (fun hHeld hClosed => ?_)
  refine wpAnyL_take (i := 0) (v := ?_) rfl (by kernel_rfl) (by kernel_rfl) (by kernel_rfl) (by kernel_rfl) (fun _ _ _ h => h) (by kernel_rfl) hClosed (Or.inl ⟨by rfl, ?_⟩) hHeld (fun hClosed => ?_)
  rotate_left
  · intro wv hSw; go_simp; all_goals (with_reducible rfl)
  (try simp only [List.getElem_toArray, List.getElem_cons_zero, put_at, List.set])
  refine wpAnyL_take (i := 1) (v := ?_) rfl (by kernel_rfl) (by kernel_rfl) (by kernel_rfl) (by kernel_rfl) (fun _ _ _ h => h) (by kernel_rfl) hClosed (Or.inl ⟨by rfl, ?_⟩) hHeld (fun hClosed => ?_)
  rotate_left
  · intro wv hSw; go_simp; all_goals (with_reducible rfl)
  (try simp only [List.getElem_toArray, List.getElem_cons_succ, List.getElem_cons_zero, put_at, List.set])
  refine wpAnyL_take (i := 2) (v := ?_) rfl (by kernel_rfl) (by kernel_rfl) (by kernel_rfl) (by kernel_rfl) (fun _ _ _ h => h) (by kernel_rfl) hClosed (Or.inl ⟨by rfl, ?_⟩) hHeld (fun hClosed => ?_)
  rotate_left
  · intro wv hSw; go_simp; all_goals (with_reducible rfl)
  (try simp only [List.getElem_toArray, List.getElem_cons_succ, List.getElem_cons_zero, put_at, List.set])
  refine wpAnyL_take (i := 3) (v := ?_) rfl (by kernel_rfl) (by kernel_rfl) (by kernel_rfl) (by kernel_rfl) (fun _ _ _ h => h) (by kernel_rfl) hClosed (Or.inl ⟨by rfl, ?_⟩) hHeld (fun hClosed => ?_)
  rotate_left
  · intro wv hSw; go_simp; all_goals (with_reducible rfl)
  (try simp only [List.getElem_toArray, List.getElem_cons_succ, List.getElem_cons_zero, put_at, List.set])
  refine wpAnyL_take (i := 4) (v := ?_) rfl (by kernel_rfl) (by kernel_rfl) (by kernel_rfl) (by kernel_rfl) (fun _ _ _ h => h) (by kernel_rfl) hClosed (Or.inl ⟨by rfl, ?_⟩) hHeld (fun hClosed => ?_)
  rotate_left
  · intro wv hSw; go_simp; all_goals (with_reducible rfl)
  (try simp only [List.getElem_toArray, List.getElem_cons_succ, List.getElem_cons_zero, put_at, List.set])
  refine wpAnyL_take (i := 5) (v := ?_) rfl (by kernel_rfl) (by kernel_rfl) (by kernel_rfl) (by kernel_rfl) (fun _ _ _ h => h) (by kernel_rfl) hClosed (Or.inl ⟨by rfl, ?_⟩) hHeld (fun hClosed => ?_)
  rotate_left
  · intro wv hSw; go_simp; all_goals (with_reducible rfl)
  (try simp only [List.getElem_toArray, List.getElem_cons_succ, List.getElem_cons_zero, put_at, List.set])
  refine wpAnyL_take (i := 6) (v := ?_) rfl (by kernel_rfl) (by kernel_rfl) (by kernel_rfl) (by kernel_rfl) (fun _ _ _ h => h) (by kernel_rfl) hClosed (Or.inl ⟨by rfl, ?_⟩) hHeld (fun hClosed => ?_)
  rotate_left
  · intro wv hSw; go_simp; all_goals (with_reducible rfl)
  (try simp only [List.getElem_toArray, List.getElem_cons_succ, List.getElem_cons_zero, put_at, List.set])
  refine wpAnyL_take (i := 7) (v := ?_) rfl (by kernel_rfl) (by kernel_rfl) (by kernel_rfl) (by kernel_rfl) (fun _ _ _ h => h) (by kernel_rfl) hClosed (Or.inl ⟨by rfl, ?_⟩) hHeld (fun hClosed => ?_)
  rotate_left
  · intro wv hSw; go_simp; all_goals (with_reducible rfl)
  (try simp only [List.getElem_toArray, List.getElem_cons_succ, List.getElem_cons_zero, put_at, List.set])
  refine wpAnyL_take (i := 8) (v := ?_) rfl (by kernel_rfl) (by kernel_rfl) (by kernel_rfl) (by kernel_rfl) (fun _ _ _ h => h) (by kernel_rfl) hClosed (Or.inl ⟨by rfl, ?_⟩) hHeld (fun hClosed => ?_)
  rotate_left
  · intro wv hSw; go_simp; all_goals (with_reducible rfl)
  (try simp only [List.getElem_toArray, List.getElem_cons_succ, List.getElem_cons_zero, put_at, List.set])
  refine wpAnyL_take (i := 9) (v := ?_) rfl (by kernel_rfl) (by kernel_rfl) (by kernel_rfl) (by kernel_rfl) (fun _ _ _ h => h) (by kernel_rfl) hClosed (Or.inl ⟨by rfl, ?_⟩) hHeld (fun hClosed => ?_)
  rotate_left
  · intro wv hSw; go_simp; all_goals (with_reducible rfl)
  (try simp only [List.getElem_toArray, List.getElem_cons_succ, List.getElem_cons_zero, put_at, List.set])
  refine wpAnyL_take (i := 10) (v := ?_) rfl (by kernel_rfl) (by kernel_rfl) (by kernel_rfl) (by kernel_rfl) (fun _ _ _ h => h) (by kernel_rfl) hClosed (Or.inl ⟨by rfl, ?_⟩) hHeld (fun hClosed => ?_)
  rotate_left
  · intro wv hSw; have hz := HZ.out.later hSw; obtain ⟨lz, cz, fz⟩ := hz.facts; have e := (HR.out.later hSw).cells0; simp only [r0] at e; obtain ⟨e0, e1, e2, e3, e4, e5⟩ := e; go_simp; all_goals (with_reducible rfl)
  (try simp only [List.getElem_toArray, List.getElem_cons_succ, List.getElem_cons_zero, put_at, List.set])
  refine wpAnyL_take (i := 11) (v := ?_) rfl (by kernel_rfl) (by kernel_rfl) (by kernel_rfl) (by kernel_rfl) (fun _ _ _ h => h) (by kernel_rfl) hClosed (Or.inl ⟨by rfl, ?_⟩) hHeld (fun hClosed => ?_)
  rotate_left
  · intro wv hSw; have hz := HZ.out.later hSw; obtain ⟨lz, cz, fz⟩ := hz.facts; have e := (HR.out.later hSw).cells0; simp only [r0] at e; obtain ⟨e0, e1, e2, e3, e4, e5⟩ := e; go_simp; all_goals (with_reducible rfl)
  (try simp only [List.getElem_toArray, List.getElem_cons_succ, List.getElem_cons_zero, put_at, List.set])
  refine wpAnyL_take (i := 12) (v := ?_) rfl (by kernel_rfl) (by kernel_rfl) (by kernel_rfl) (by kernel_rfl) (fun _ _ _ h => h) (by kernel_rfl) hClosed (Or.inl ⟨by rfl, ?_⟩) hHeld (fun hClosed => ?_)
  rotate_left
  · intro wv hSw; go_simp; all_goals (with_reducible rfl)
  (try simp only [List.getElem_toArray, List.getElem_cons_succ, List.getElem_cons_zero, put_at, List.set])
  refine wpAnyL_take (i := 13) (v := ?_) rfl (by kernel_rfl) (by kernel_rfl) (by kernel_rfl) (by kernel_rfl) (fun _ _ _ h => h) (by kernel_rfl) hClosed (Or.inl ⟨by rfl, ?_⟩) hHeld (fun hClosed => ?_)
  rotate_left
  · intro wv hSw; go_simp; all_goals (with_reducible rfl)
  (try simp only [List.getElem_toArray, List.getElem_cons_succ, List.getElem_cons_zero, put_at, List.set])
  refine wpAnyL_take (i := 14) (v := ?_) rfl (by kernel_rfl) (by kernel_rfl) (by kernel_rfl) (by kernel_rfl) (fun _ _ _ h => h) (by kernel_rfl) hClosed (Or.inl ⟨by rfl, ?_⟩) hHeld (fun hClosed => ?_)
  rotate_left
  · intro wv hSw; go_simp; all_goals (with_reducible rfl)
  (try simp only [List.getElem_toArray, List.getElem_cons_succ, List.getElem_cons_zero, put_at, List.set])
  refine wpAnyL_take (i := 15) (v := ?_) rfl (by kernel_rfl) (by kernel_rfl) (by kernel_rfl) (by kernel_rfl) (fun _ _ _ h => h) (by kernel_rfl) hClosed (Or.inl ⟨by rfl, ?_⟩) hHeld (fun hClosed => ?_)
  rotate_left
  · intro wv hSw; go_simp; all_goals (with_reducible rfl)
  (try simp only [List.getElem_toArray, List.getElem_cons_succ, List.getElem_cons_zero, put_at, List.set])
  refine wpAnyL_take (i := 16) (v := ?_) rfl (by kernel_rfl) (by kernel_rfl) (by kernel_rfl) (by kernel_rfl) (fun _ _ _ h => h) (by kernel_rfl) hClosed (Or.inl ⟨by rfl, ?_⟩) hHeld (fun hClosed => ?_)
  rotate_left
  · intro wv hSw; go_simp; all_goals (with_reducible rfl)
  (try simp only [List.getElem_toArray, List.getElem_cons_succ, List.getElem_cons_zero, put_at, List.set])
  refine wpAnyL_take (i := 17) (v := ?_) rfl (by kernel_rfl) (by kernel_rfl) (by kernel_rfl) (by kernel_rfl) (fun _ _ _ h => h) (by kernel_rfl) hClosed (Or.inl ⟨by rfl, ?_⟩) hHeld (fun hClosed => ?_)
  rotate_left
  · intro wv hSw; go_simp; all_goals (with_reducible rfl)
  (try simp only [List.getElem_toArray, List.getElem_cons_succ, List.getElem_cons_zero, put_at, List.set])
  refine wpAnyL_take (i := 18) (v := ?_) rfl (by kernel_rfl) (by kernel_rfl) (by kernel_rfl) (by kernel_rfl) (fun _ _ _ h => h) (by kernel_rfl) hClosed (Or.inl ⟨by rfl, ?_⟩) hHeld (fun hClosed => ?_)
  rotate_left
  · intro wv hSw; go_simp; all_goals (with_reducible rfl)
  (try simp only [List.getElem_toArray, List.getElem_cons_succ, List.getElem_cons_zero, put_at, List.set])
  refine wpAnyL_take (i := 19) (v := ?_) rfl (by kernel_rfl) (by kernel_rfl) (by kernel_rfl) (by kernel_rfl) (fun _ _ _ h => h) (by kernel_rfl) hClosed (Or.inl ⟨by rfl, ?_⟩) hHeld (fun hClosed => ?_)
  rotate_left
  · intro wv hSw; go_simp; all_goals (with_reducible rfl)
  (try simp only [List.getElem_toArray, List.getElem_cons_succ, List.getElem_cons_zero, put_at, List.set])
  refine wpAnyL_take (i := 20) (v := ?_) rfl (by kernel_rfl) (by kernel_rfl) (by kernel_rfl) (by kernel_rfl) (fun _ _ _ h => h) (by kernel_rfl) hClosed (Or.inl ⟨by rfl, ?_⟩) hHeld (fun hClosed => ?_)
  rotate_left
  · intro wv hSw; go_simp; all_goals (with_reducible rfl)
  (try simp only [List.getElem_toArray, List.getElem_cons_succ, List.getElem_cons_zero, put_at, List.set])
  refine wpAnyL_one (i := 21) rfl (by kernel_rfl) (by kernel_rfl) hClosed (fun KK hK => ?_)
  go_simp
  refine hK.out _ _ ?_ (fun hClosed hHeld => ?_)
  · exact hHeld.alloc hHeld.size _
  clear hK KK
  (first | simp only [List.getElem_toArray, List.getElem_cons_succ, List.getElem_cons_zero, put_at, List.set] | (try simp only [put_at, List.set]))
  refine last_forget (fun w' => ∃ wd : World, w' = wd.alloc (.cells #[.int .u8 49, .int .u8 50, .int .u8 51, .int .u8 52, .int .u8 53, .int .u8 54, .int .u8 55, .int .u8 56, .int .u8 57] 5) ∧ wd.heap.size = wc.heap.size ∧ Below wc.heap.size wc wd) ⟨wc.drew, rfl, rfl, Below.drew (Below.refl _ _)⟩ ?_
  clear hHeld
  rintro w3 ⟨wd, rfl, hwd, hwb⟩
  have hHeld := hwb.alloc (by omega) (.cells #[.int .u8 49, .int .u8 50, .int .u8 51, .int .u8 52, .int .u8 53, .int .u8 54, .int .u8 55, .int .u8 56, .int .u8 57] 5)
  refine wpAnyL_one (i := 22) rfl (by kernel_rfl) (by kernel_rfl) hClosed (fun KK hK => ?_)
  have hkc := Lib.run_convert_bytes_const (P := Try.prog) wd 27 5 #[.int .u8 49, .int .u8 50, .int .u8 51, .int .u8 52, .int .u8 53, .int .u8 54, .int .u8 55, .int .u8 56, .int .u8 57] 9 9 Try.underlying27 Try.underlying5
  rw [hwd] at hkc
  go_simp
  refine hK.out _ _ ?_ (fun hClosed hHeld => ?_)
  · exact hwb.alloc (by omega) _
  clear hK KK
  (first | simp only [List.getElem_toArray, List.getElem_cons_succ, List.getElem_cons_zero, put_at, List.set] | (try simp only [put_at, List.set]))
  have hL : RdB (wd.alloc (.cells #[.int .u8 49, .int .u8 50, .int .u8 51, .int .u8 52, .int .u8 53, .int .u8 54, .int .u8 55, .int .u8 56, .int .u8 57] 5 (9, 10))) (some ⟨wd.heap.size, 0, none⟩) [49, 50, 51, 52, 53, 54, 55, 56, 57] := RdB.new wd [49, 50, 51, 52, 53, 54, 55, 56, 57] 5 (9, 10)
  rw [hwd] at hL
  clear hkc
  refine wpAnyL_one (i := 23) rfl (by kernel_rfl) (by kernel_rfl) hClosed (fun KK hK => ?_)
  go_simp
  refine (sum_as [49, 50, 51, 52, 53, 54, 55, 56, 57] 9 _ _ _ _ hL rfl (by unfold Byts; decide) (by decide) sum_nine).mono ?_
  rintro e w' ⟨rfl, rfl⟩
  go_wp2_with fail
  refine hK.out _ _ ?_ (fun hClosed hHeld => ?_)
  · exact hHeld
  clear hK KK
  (first | simp only [List.getElem_toArray, List.getElem_cons_succ, List.getElem_cons_zero, put_at, List.set] | (try simp only [put_at, List.set]))
  refine wpAnyL_take (i := 24) (v := ?_) rfl (by kernel_rfl) (by kernel_rfl) (by kernel_rfl) (by kernel_rfl) (fun _ _ _ h => h) (by kernel_rfl) hClosed (Or.inl ⟨by rfl, ?_⟩) hHeld (fun hClosed => ?_)
  rotate_left
  · intro wv hSw; go_simp; all_goals (with_reducible rfl)
  (try simp only [List.getElem_toArray, List.getElem_cons_succ, List.getElem_cons_zero, put_at, List.set])
  refine wpAnyL_take (i := 25) (v := ?_) rfl (by kernel_rfl) (by kernel_rfl) (by kernel_rfl) (by kernel_rfl) (fun _ _ _ h => h) (by kernel_rfl) hClosed (Or.inl ⟨by rfl, ?_⟩) hHeld (fun hClosed => ?_)
  rotate_left
  · intro wv hSw; go_simp; all_goals (with_reducible rfl)
  (try simp only [List.getElem_toArray, List.getElem_cons_succ, List.getElem_cons_zero, put_at, List.set])
  refine wpAnyL_take (i := 26) (v := ?_) rfl (by kernel_rfl) (by kernel_rfl) (by kernel_rfl) (by kernel_rfl) (fun _ _ _ h => h) (by kernel_rfl) hClosed (Or.inl ⟨by rfl, ?_⟩) hHeld (fun hClosed => ?_)
  rotate_left
  · intro wv hSw; go_simp; all_goals (with_reducible rfl)
  (try simp only [List.getElem_toArray, List.getElem_cons_succ, List.getElem_cons_zero, put_at, List.set])
  refine wpAnyL_one (i := 27) rfl (by kernel_rfl) (by kernel_rfl) hClosed (fun KK hK => ?_)
  go_simp
  refine (rsum_as [] 0 _ none 0 _ (Or.inl rfl) rfl Byts.nil (by decide) sum_none).mono ?_
  rintro e w' ⟨rfl, rfl⟩
  go_wp2_with fail
  refine hK.out _ _ ?_ (fun hClosed hHeld => ?_)
  · exact hHeld
  clear hK KK
  (first | simp only [List.getElem_toArray, List.getElem_cons_succ, List.getElem_cons_zero, put_at, List.set] | (try simp only [put_at, List.set]))
  refine wpAnyL_take (i := 28) (v := ?_) rfl (by kernel_rfl) (by kernel_rfl) (by kernel_rfl) (by kernel_rfl) (fun _ _ _ h => h) (by kernel_rfl) hClosed (Or.inl ⟨by rfl, ?_⟩) hHeld (fun hClosed => ?_)
  rotate_left
  · intro wv hSw; go_simp; all_goals (with_reducible rfl)
  (try simp only [List.getElem_toArray, List.getElem_cons_succ, List.getElem_cons_zero, put_at, List.set])
  refine wpAnyL_take (i := 29) (v := ?_) rfl (by kernel_rfl) (by kernel_rfl) (by kernel_rfl) (by kernel_rfl) (fun _ _ _ h => h) (by kernel_rfl) hClosed (Or.inl ⟨by rfl, ?_⟩) hHeld (fun hClosed => ?_)
  rotate_left
  · intro wv hSw; go_simp; all_goals (with_reducible rfl)
  (try simp only [List.getElem_toArray, List.getElem_cons_succ, List.getElem_cons_zero, put_at, List.set])
  refine wpAnyL_last rfl (by kernel_rfl) (by kernel_rfl) (fun KK hK => ?_)
  go_simp
  refine hK.out _ _ ?_
  (try simp only [put_at, List.set])
  go_wp2_with fail
  go_ret
  exact ⟨rfl, HB.out.trans (hHeld.mono HB.out.size)⟩
end Go.Proofs.Ytndgpdpabjaedaa
