/- Package tale: whether a form covers a step. -/
import Derived.Test.YtbfdklmljcdonaaDoorTlDal
namespace Go.Proofs.YtbfdklmljcdonaaDoor
open Go Go.RowKit
set_option linter.unusedVariables false
set_option linter.unusedSimpArgs false
set_option maxRecDepth 10000

def fmA (f : Fm) : Array Value := #[.int .i64 f.kind, .string (stB f.word), .int .i64 f.n, .bool f.text, .bool f.hs]
theorem sliceFrom_in (g : Nat) (k : Nat) (hk : k ≤ 3) : ∃ off, (∀ w : World, (Instr.sliceAt 49 (.slice (some ⟨g, 0, none⟩) 3 3) (some (.int .i64 (k : Int))) none none).run Tryd.prog w = .ok (.slice (some ⟨g, off, none⟩) (3 - k) (3 - k)) w) ∧ (k < 3 → off = k) := by
  obtain ⟨off, h1, h2⟩ := sliceFrom_off rowIn g 3 3 k hk (Nat.le_refl _)
  exact ⟨off, h1, fun h => by rw [h2 h, Nat.mul_one]⟩
theorem str_empty (x : ByteArray) : x.toList.isEmpty = (bl x).isEmpty := by rw [toList_data]; rfl
set_option maxHeartbeats 4000000 in
theorem covers_at (f : Fm) (hf : f.n ≤ 3) (x : Stp) (ha : Option Addr) (n hc : Nat) (hn : x.hs.length = n) (q : Bool) (hq : covB f (spOf x) = q) (w : World) :
    Calls Tryd.prog 9 #[.agg (fmA f), .agg (stA x.k x.a x.b x.c x.t ha n hc)] w fun e w' => e = .returned (.bool q) ∧ Below w.heap.size w w' := by
  obtain ⟨fk, fw, fn, ft, fh⟩ := f
  obtain ⟨xk, xa, xb, xc, xt, xh⟩ := x
  dsimp only at hf hn ⊢
  have HQ := Lib.hid hq
  have HN := Lib.hid hn
  clear hq hn
  unfold fmA stA
  obtain ⟨fws, hfws⟩ : ∃ s, stB fw = s := ⟨_, rfl⟩
  dsimp only
  rw [hfws]
  clear hfws
  have BF0 := Box.new w #[.int .i64 fk, .string fws, .int .i64 (fn : Int), .bool ft, .bool fh] 38
  go_enter Tryd.func9, Tryd.ntmps9
  go_upto_region 1 with fail
  refine code_forget (fun W => Hid (Box W w.heap.size #[.int .i64 fk, .string fws, .int .i64 (fn : Int), .bool ft, .bool fh] 38) ∧ Hid (Box W (w.heap.size + 1) #[.int .i64 xk, .int .i64 xa, .int .i64 xb, .int .i64 xc, .string xt, .slice ha n hc] 26) ∧ Hid (∀ W', Below W.heap.size W W' → Below w.heap.size w W')) ⟨Lib.hid (BF0.alloc _), Lib.hid (by have h9 := Box.new (w.alloc (.cells #[.int .i64 fk, .string fws, .int .i64 (fn : Int), .bool ft, .bool fh] 38)) #[.int .i64 xk, .int .i64 xa, .int .i64 xb, .int .i64 xc, .string xt, .slice ha n hc] 26; rw [World.size_alloc] at h9; exact h9), Lib.hid (fun W' h => (((Below.refl w.heap.size w).alloc (Nat.le_refl _) _).alloc (by simp) _).trans (h.mono (by simp; omega)))⟩ ?_
  rintro w1 ⟨BF, BS, FINW⟩
  clear BF0
  have f2 := BF.out.cell 2
  have lf := BF.out.lt
  have s0 := BS.out.cell 0
  have s1 := BS.out.cell 1
  have s2 := BS.out.cell 2
  have s3 := BS.out.cell 3
  have s4 := BS.out.cell 4
  have s5 := BS.out.cell 5
  have ls := BS.out.lt
  have SFA := Lib.hid (fun g => sliceFrom_in g fn hf)
  go_cut [11, 12, 13] (fun s l z wx => ∃ (g off : Nat), s = .slice (some ⟨g, off, none⟩) (3 - fn) (3 - fn) ∧ l = .int .i64 ((3 - fn : Nat) : Int) ∧ z = .int .i64 0 ∧ Hid (fn < 3 → off = fn) ∧ Hid (Own wx w1.heap.size 3 1 (some ⟨g, 0, none⟩) 3 3 (inV [xa, xb, xc])) ∧ Hid (Below w1.heap.size w1 wx))
  case first =>
    go_region_with (refine (numbers_at xk xa xb xc xt ha n hc _).mono ?_; rintro e w5 ⟨g, rfl, og, hb⟩; have OG := Lib.hid og; obtain ⟨off, hsf, hoff⟩ := SFA.out g; have HOFF := Lib.hid hoff; have FINB := Lib.hid ((Below.refl w1.heap.size w1).drew.trans hb); have c2 := (BF.out.drew.later hb).cell 2; have l2 := (BF.out.drew.later hb).lt; clear og hoff hb)
    all_goals (go_wp2; go_meet; exact ⟨g, off, rfl, rfl, rfl, HOFF, OG, FINB⟩)
  case rest =>
    obtain ⟨g, off, rfl, rfl, rfl, HOFF, OG, FINB⟩ := hcut
    obtain ⟨w5, hw5⟩ : ∃ W, wc = W := ⟨_, rfl⟩
    rw [hw5] at OG FINB ⊢
    clear hw5 f2 lf s0 s1 s2 s3 s4 s5 ls
    obtain ⟨L, hL⟩ : ∃ L, 3 - fn = L := ⟨_, rfl⟩
    rw [hL]
    have HL := Lib.hid hL
    have hL3 : L ≤ 3 := by omega
    clear hL
    go_wp2_with fail
    go_loopw [13] (fun vk wr => ∃ (j : Nat), j ≤ L ∧ vk = .int .i64 (j : Int) ∧ Hid (((([xa, xb, xc] : List Int).drop fn).take j).all (fun v => v == 0) = true) ∧ Hid (Below w5.heap.size w5 wr)) (fun vk _ => L - (intOf vk).toNat)
    case atStart => exact ⟨0, by omega, rfl, Lib.hid (by simp), Lib.hid (Below.refl _ _)⟩
    case round =>
      obtain ⟨j, hj, rfl, HA, HB5⟩ := hrel
      by_cases hlt : j < L
      · have hkd : decide ((j : Int) < (L : Int)) = true := decide_eq_true (by omega)
        obtain ⟨v, hv⟩ : ∃ v, (([xa, xb, xc] : List Int).drop fn)[j]? = some v := ⟨(([xa, xb, xc] : List Int).drop fn)[j]'(by simp; have := HL.out; omega), List.getElem?_eq_getElem _⟩
        have hc0 : wr.cell? ⟨g, off + j, none⟩ = some (.int .i64 v) := by
          have h9 := HOFF.out (by have := HL.out; omega)
          have h8 := (OG.out.later HB5.out).cell (j := fn + j) (u := .int .i64 v) (by unfold inV; rw [List.getElem?_map]; rw [List.getElem?_drop] at hv; rw [hv]; rfl)
          rw [h9]; exact h8
        have HV := Lib.hid hv
        have hk0 : (0 : Int) ≤ (j : Int) := by omega
        have hk1 : (j : Int) < (L : Int) := by omega
        clear hv
        by_cases hz : v = 0
        · subst hz
          have HA2 : Hid (((([xa, xb, xc] : List Int).drop fn).take (j + 1)).all (fun v => v == 0) = true) := Lib.hid (by rw [List.take_add_one, HV.out, List.all_append, HA.out]; rfl)
          go_wp2
          go_roundw
          case rel => exact ⟨j + 1, by omega, by go_num, HA2, HB5⟩
          case measure => simp [intOf]; omega
        · have dz : (v != 0) = true := by simpa using hz
          have HF : Hid (q = false) := Lib.hid (by
            rw [← HQ.out]
            unfold covB numsS spOf
            dsimp only
            rw [Bool.and_eq_false_iff]
            left
            rw [List.all_eq_false]
            exact ⟨v, List.mem_of_getElem? HV.out, by simpa using hz⟩)
          have FB2 := Lib.hid (FINB.out.trans (HB5.out.mono FINB.out.size))
          clear HV hz HA HB5
          go_wp2
          go_ret
          exact ⟨by rw [HF.out]; rfl, FINW.out _ FB2.out⟩
      · have hkd : decide ((j : Int) < (L : Int)) = false := decide_eq_false (by omega)
        have HALL : Hid ((([xa, xb, xc] : List Int).drop fn).all (fun v => v == 0) = true) := Lib.hid (by have h9 := HA.out; rw [List.take_of_length_le (by simp; have := HL.out; omega)] at h9; exact h9)
        have FB2 := Lib.hid (FINB.out.trans (HB5.out.mono FINB.out.size))
        have BF3 := Lib.hid (BF.out.later FB2.out)
        have BS3 := Lib.hid (BS.out.later FB2.out)
        obtain ⟨et, het⟩ : ∃ b, xt.toList.isEmpty = b := ⟨_, rfl⟩
        have HQ2 : Hid (q = ((ft || et) && (fh || decide (n = 0)))) := Lib.hid (by
          rw [← HQ.out]
          unfold covB numsS spOf
          dsimp only
          rw [HALL.out, Bool.true_and, ← het, str_empty]
          congr 2
          rw [← HN.out, List.isEmpty_map]
          cases xh <;> simp)
        have dn : ((n : Int) == 0) = decide (n = 0) := by rw [Bool.eq_iff_iff, beq_iff_eq, decide_eq_true_iff]; omega
        obtain ⟨z, hz⟩ : ∃ z, decide (n = 0) = z := ⟨_, rfl⟩
        rw [hz] at dn HQ2
        clear HA HB5 hz
        have f3 := BF3.out.cell 3
        have f4 := BF3.out.cell 4
        have s4 := BS3.out.cell 4
        have s5 := BS3.out.cell 5
        have lf := BF3.out.lt
        have ls := BS3.out.lt
        have HF2 := Lib.hid (FINW.out _ FB2.out)
        cases ft <;> cases fh <;> cases et <;> cases z <;> go_wp2 <;> go_ret <;> exact ⟨by rw [HQ2.out]; rfl, HF2.out⟩
end Go.Proofs.YtbfdklmljcdonaaDoor
