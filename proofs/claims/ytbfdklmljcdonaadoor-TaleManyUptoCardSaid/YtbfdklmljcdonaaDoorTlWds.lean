/- Package tale: the words of a step. -/
import Derived.Test.YtbfdklmljcdonaaDoorTlCov
import Derived.Test.YtbfdklmljcdonaaDoorOnly
import Derived.Test.YtbfdklmljcdonaaDoorLast
import Derived.Test.YtbfdklmljcdonaaDoorOnly
namespace Go.Proofs.YtbfdklmljcdonaaDoor
open Go Go.RowKit
set_option linter.unusedVariables false
set_option linter.unusedSimpArgs false
set_option maxRecDepth 10000

theorem hdV_len (hs : List (ByteArray × ByteArray)) : (hdV hs).length = hs.length * 2 := by
  induction hs with
  | nil => rfl
  | cons h r ih => unfold hdV at ih ⊢; rw [List.flatMap_cons, List.length_append, ih, List.length_cons]; simp; omega
theorem hdV_at : ∀ {hs : List (ByteArray × ByteArray)} {i : Nat} {h : ByteArray × ByteArray}, hs[i]? = some h → (hdV hs)[i * 2]? = some (.string h.1) ∧ (hdV hs)[i * 2 + 1]? = some (.string h.2)
  | x :: hs, 0, h, hi => by
    injection hi with hi
    subst hi
    exact ⟨rfl, rfl⟩
  | x :: hs, i + 1, h, hi => by
    have ih := hdV_at (hs := hs) (i := i) (h := h) (by simpa using hi)
    have e : hdV (x :: hs) = .string x.1 :: .string x.2 :: hdV hs := rfl
    rw [e, show (i + 1) * 2 = i * 2 + 1 + 1 by omega, show i * 2 + 1 + 1 + 1 = (i * 2 + 1) + 1 + 1 by omega]
    exact ih
  | [], i, h, hi => by cases hi
theorem new_one2 (x y : ByteArray) : ∀ u ∈ strV [x, y], u.oneCell' = true := strV_one _
theorem ne_app {g gl g5 N : Nat} (h : g < N) (hne : g ≠ gl) (p4 : some gl = some g5 ∨ g5 = N + 1) : g ≠ g5 := by
  rcases p4 with p4 | p4
  · injection p4 with p4
    omega
  · omega
def SzS (x : Stp) : Prop := x.t.size ≤ 3000000 ∧ x.hs.length ≤ 3000000 ∧ ∀ h ∈ x.hs, h.1.size ≤ 3000000 ∧ h.2.size ≤ 3000000
def RgS (x : Stp) : Prop := Rng x.a ∧ Rng x.b ∧ Rng x.c
def WdsP (f : Fm) (x : Stp) (w : World) (e : Ending) (w' : World) : Prop :=
  ∃ (ss : List ByteArray) (g m c : Nat), e = .returned (.slice (some ⟨g, 0, none⟩) m c) ∧ ss.length = m ∧ ss.map bl = wordsS f (spOf x) ∧ m ≤ 9000000 ∧ Own w' w.heap.size 9 1 (some ⟨g, 0, none⟩) m c (strV ss) ∧ Below w.heap.size w w'
set_option maxHeartbeats 8000000 in
theorem words_at (f : Fm) (hf : f.n ≤ 3) (x : Stp) (hz : SzS x) (hrg : RgS x) (ha : Option Addr) (n hc : Nat) (hn : x.hs.length = n) (w : World) (hr : RdC w ha (hdV x.hs)) (hT : TabT w) :
    Calls Tryd.prog 11 #[.agg (fmA f), .agg (stA x.k x.a x.b x.c x.t ha n hc)] w (WdsP f x w) := by
  obtain ⟨fk, fw, fn, ft, fh⟩ := f
  obtain ⟨xk, xa, xb, xc, xt, xh⟩ := x
  obtain ⟨hz1, hz2, hz3⟩ := hz
  dsimp only at hf hn hz1 hz2 hz3 hr ⊢
  have HZ3 := Lib.hid hz3
  have HN := Lib.hid hn
  have HR := Lib.hid hr
  have HT := Lib.hid hT
  have HG := Lib.hid hrg
  have hn2 : n ≤ 3000000 := by omega
  clear hn hz3 hr hT hrg hz2
  unfold fmA stA
  obtain ⟨fws, hfws⟩ : ∃ s, stB fw = s := ⟨_, rfl⟩
  dsimp only
  rw [hfws]
  have HFW : Hid (bl fws = fw) := Lib.hid (by rw [← hfws, bl_stB])
  clear hfws
  have BF0 := Box.new w #[.int .i64 fk, .string fws, .int .i64 (fn : Int), .bool ft, .bool fh] 38
  go_enter Tryd.func11, Tryd.ntmps11
  go_upto_region 1 with fail
  refine code_forget (fun W => Hid (Box W w.heap.size #[.int .i64 fk, .string fws, .int .i64 (fn : Int), .bool ft, .bool fh] 38) ∧ Hid (Box W (w.heap.size + 1) #[.int .i64 xk, .int .i64 xa, .int .i64 xb, .int .i64 xc, .string xt, .slice ha n hc] 26) ∧ Hid (w.heap.size + 2 ≤ W.heap.size) ∧ Hid (Below w.heap.size w W)) ⟨Lib.hid (BF0.alloc _), Lib.hid (by have h9 := Box.new (w.alloc (.cells #[.int .i64 fk, .string fws, .int .i64 (fn : Int), .bool ft, .bool fh] 38)) #[.int .i64 xk, .int .i64 xa, .int .i64 xb, .int .i64 xc, .string xt, .slice ha n hc] 26; rw [World.size_alloc] at h9; exact h9), Lib.hid (by simp), Lib.hid (((Below.refl w.heap.size w).alloc (Nat.le_refl _) _).alloc (by simp) _)⟩ ?_
  rintro w1 ⟨BF, BS, SZ1, BW1⟩
  clear BF0
  have f1 := BF.out.cell 1
  have lf := BF.out.lt
  have OL := Lib.hid (Own.lit (w := w1) (B := w1.heap.size) (n := 1) (size := 1) (cs := #[.string fws]) (E := 9) (Nat.le_refl _) (by omega) rfl)
  have BL := Lib.hid ((Below.refl w1.heap.size w1).alloc (Nat.le_refl _) (.cells #[.string fws] 9))
  go_upto_region 2 with fail
  obtain ⟨g1, hg1⟩ : ∃ g, w1.heap.size = g := ⟨_, rfl⟩
  obtain ⟨w2, hw2⟩ : ∃ W, w1.alloc (.cells #[.string fws] 9) = W := ⟨_, rfl⟩
  rw [hg1, hw2] at OL
  rw [hw2] at BL
  rw [hg1, hw2]
  have HG1 := Lib.hid hg1
  clear hw2 f1 lf hg1
  have BF2 := Lib.hid (BF.out.later BL.out)
  have BS2 := Lib.hid (BS.out.later BL.out)
  have B12 : Hid (Below w1.heap.size w1 w2) := BL
  have O2 : Hid (Own w2 w1.heap.size 9 1 (some ⟨g1, 0, none⟩) 1 1 (strV [fws])) := Lib.hid (by have h9 := OL.out; rw [← HG1.out] at h9 ⊢; exact h9)
  clear OL BL
  have f2 := BF2.out.cell 2
  have lf := BF2.out.lt
  have s0 := BS2.out.cell 0
  have s1 := BS2.out.cell 1
  have s2 := BS2.out.cell 2
  have s3 := BS2.out.cell 3
  have s4 := BS2.out.cell 4
  have s5 := BS2.out.cell 5
  have ls := BS2.out.lt
  have SFA := Lib.hid (fun (g : Nat) (W : World) => sliceTo_run rowIn (some ⟨g, 0, none⟩) 3 3 fn hf W (fun e => by cases e))
  go_cut [17, 18, 19] (fun s l z wx => ∃ (g : Nat), s = .slice (some ⟨g, 0, none⟩) fn 3 ∧ l = .int .i64 (fn : Int) ∧ z = .int .i64 0 ∧ Hid (Own wx w2.heap.size 3 1 (some ⟨g, 0, none⟩) 3 3 (inV [xa, xb, xc])) ∧ Hid (Below w2.heap.size w2 wx))
  case first =>
    go_region_with (refine (numbers_at xk xa xb xc xt ha n hc _).mono ?_; rintro e w5 ⟨g, rfl, og, hb⟩; have OG := Lib.hid og; have hsf := SFA.out g; have FINB := Lib.hid ((Below.refl w2.heap.size w2).drew.trans hb); have c2 := (BF2.out.drew.later hb).cell 2; have l2 := (BF2.out.drew.later hb).lt; clear og hb)
    all_goals (go_wp2; go_meet; exact ⟨g, rfl, rfl, rfl, OG, FINB⟩)
  case rest =>
    obtain ⟨g, rfl, rfl, rfl, OG, FINB⟩ := hcut
    obtain ⟨w5, hw5⟩ : ∃ W, wc = W := ⟨_, rfl⟩
    rw [hw5] at OG FINB ⊢
    clear hw5 f2 lf s0 s1 s2 s3 s4 s5 ls SFA
    have O5 := Lib.hid (O2.out.later FINB.out)
    have B15 := Lib.hid (B12.out.trans (FINB.out.mono B12.out.size))
    go_wp2_with fail
    go_loopw [5, 19] (fun vl vk wr => ∃ (k m c gl : Nat) (ss : List ByteArray), k ≤ fn ∧ m = k + 1 ∧ vk = .int .i64 (k : Int) ∧ vl = .slice (some ⟨gl, 0, none⟩) m c ∧ Hid (Own wr w1.heap.size 9 1 (some ⟨gl, 0, none⟩) m c (strV ss)) ∧ Hid (Below w1.heap.size w1 wr) ∧ Hid (Own wr w1.heap.size 3 1 (some ⟨g, 0, none⟩) 3 3 (inV [xa, xb, xc])) ∧ Hid (g ≠ gl) ∧ Hid (ss.length = m) ∧ Hid (ss.map bl = fw :: (([xa, xb, xc] : List Int).take k).map Lib.itoa)) (fun _ vk _ => fn - (intOf vk).toNat)
    case atStart => exact ⟨0, 1, 1, g1, [fws], by omega, by omega, rfl, rfl, O5, B15, Lib.hid (OG.out.mono B12.out.size), Lib.hid (by have h8 := OG.out.lt.1; have h9 := O2.out.lt.2; omega), Lib.hid rfl, Lib.hid (by simp [HFW.out])⟩
    case round =>
      obtain ⟨k, m, c, gl, ss, hk, hmk, rfl, rfl, OR, BR, ON, HNG, HSL0, HSM0⟩ := hrel
      have HMK := Lib.hid hmk
      have hm5 : m ≤ 5 := by omega
      clear hmk O5 B15
      by_cases hlt : k < fn
      · have hkd : decide ((k : Int) < (fn : Int)) = true := decide_eq_true (by omega)
        obtain ⟨v, hv⟩ : ∃ v, ([xa, xb, xc] : List Int)[k]? = some v := ⟨([xa, xb, xc] : List Int)[k]'(by simp; omega), List.getElem?_eq_getElem _⟩
        have hc0 := ON.out.cell (j := k) (u := .int .i64 v) (by unfold inV; rw [List.getElem?_map, hv]; rfl)
        have hrv : Rng v := by
          have h9 := List.mem_of_getElem? hv
          obtain ⟨r1, r2, r3⟩ := HG.out
          rcases List.mem_cons.1 h9 with rfl | h9
          · exact r1
          · rcases List.mem_cons.1 h9 with rfl | h9
            · exact r2
            · rw [List.mem_singleton] at h9
              subst h9
              exact r3
        obtain ⟨x, hx⟩ : ∃ x, stB (Lib.itoa v) = x := ⟨_, rfl⟩
        have HX := Lib.hid hx
        have HSM : Hid ((ss ++ [x]).map bl = fw :: (([xa, xb, xc] : List Int).take (k + 1)).map Lib.itoa) := Lib.hid (by
          rw [List.map_append, HSM0.out, List.take_add_one, hv, ← hx]
          simp [bl_stB])
        have HSL : Hid ((ss ++ [x]).length = m + 1) := Lib.hid (by rw [List.length_append, HSL0.out]; rfl)
        have HZ : Hid (strV ss ++ #[.string x].toList = strV (ss ++ [x])) := Lib.hid (by rw [strV_app]; rfl)
        have HTR := Lib.hid (HT.out.later (BW1.out.trans (BR.out.mono (by have := SZ1.out; omega))  |>.mono (Nat.le_refl _)))
        have HMK3 : Hid (m + 1 = (k + 1) + 1) := Lib.hid (by rw [HMK.out])
        have hk0 : (0 : Int) ≤ (k : Int) := by omega
        have hk1 : (k : Int) < (fn : Int) := by omega
        clear hv hx HSM0 HSL0
        go_wp2_with fail
        refine (itoa_at v x HX.out hrv wr HTR.out).mono ?_
        rintro e w6 ⟨rfl, b6⟩
        have OR6 := Lib.hid (OR.out.later b6)
        have ON6 := Lib.hid (ON.out.later b6)
        have BR6 := Lib.hid (BR.out.trans (b6.mono BR.out.size))
        clear b6 OR ON BR hc0 HTR
        go_wp2_with (at_builtin; refine wpList_app1 rowSt rfl _ _ rfl w1.heap.size (some ⟨gl, 0, none⟩) m c (strV ss) rfl OR6.out #[.string x] rfl rfl (one_str x) (by omega) (by decide) BR6.out.size (m + 1) rfl (strV (ss ++ [x])) HZ.out ?_; rintro g5 c5 w7 p1 p2 p3 p4; have NX := Lib.hid (And.intro p1 (BR6.out.trans p3)); have ON7 := Lib.hid (ON6.out.only (Only.of_grown (R := fun q => q = gl) p2 (fun q e => by injection e with e; exact e.symm)) (fun q e => by injection e with e; injection e with e; subst e; exact HNG.out)); have HNG7 := Lib.hid (ne_app ON6.out.lt.2 HNG.out p4); clear p1 p2 p3 p4 OR6 BR6 ON6 HNG)
        go_roundw
        case rel => exact ⟨k + 1, m + 1, c5, g5, ss ++ [x], by omega, HMK3.out, by go_num, rfl, Lib.hid NX.out.1, Lib.hid NX.out.2, ON7, HNG7, HSL, HSM⟩
        case measure => simp [intOf]; omega
      · have hkd : decide ((k : Int) < (fn : Int)) = false := decide_eq_false (by omega)
        have HSM : Hid (ss.map bl = fw :: (([xa, xb, xc] : List Int).take fn).map Lib.itoa) := Lib.hid (by rw [HSM0.out, show k = fn by omega])
        have BF5 := Lib.hid (BF.out.below BR.out BF.out.lt)
        have BS5 := Lib.hid (BS.out.below BR.out BS.out.lt)
        have f3 := BF5.out.cell 3
        have lf := BF5.out.lt
        clear HSM0 ON HNG HG
        go_upto_if 30 with fail
        go_cut [5] (fun vl wx => ∃ (m2 c2 gl2 : Nat) (ss2 : List ByteArray), vl = .slice (some ⟨gl2, 0, none⟩) m2 c2 ∧ m2 ≤ 6 ∧ Hid (Own wx w1.heap.size 9 1 (some ⟨gl2, 0, none⟩) m2 c2 (strV ss2)) ∧ Hid (Below w1.heap.size w1 wx) ∧ Hid (ss2.length = m2) ∧ Hid (ss2.map bl = fw :: (([xa, xb, xc] : List Int).take fn).map Lib.itoa ++ (if ft then [hexW (bl xt)] else [])))
        case first =>
          cases ft with
          | false =>
            have HSM2 : Hid (ss.map bl = fw :: (([xa, xb, xc] : List Int).take fn).map Lib.itoa ++ (if false then [hexW (bl xt)] else [])) := Lib.hid (by rw [HSM.out]; simp)
            go_wp2
            go_meet
            exact ⟨m, c, gl, ss, rfl, by omega, OR, BR, HSL0, HSM2⟩
          | true =>
            have s4 := BS5.out.cell 4
            have ls := BS5.out.lt
            obtain ⟨x, hx⟩ : ∃ x, stB (hexW (bl xt)) = x := ⟨_, rfl⟩
            have HX := Lib.hid hx
            have HSM2 : Hid ((ss ++ [x]).map bl = fw :: (([xa, xb, xc] : List Int).take fn).map Lib.itoa ++ (if true then [hexW (bl xt)] else [])) := Lib.hid (by rw [List.map_append, HSM.out, ← hx]; simp [bl_stB])
            have HSL : Hid ((ss ++ [x]).length = m + 1) := Lib.hid (by rw [List.length_append, HSL0.out]; rfl)
            have HZ : Hid (strV ss ++ #[.string x].toList = strV (ss ++ [x])) := Lib.hid (by rw [strV_app]; rfl)
            clear hx
            go_wp2_with fail
            refine (encode_at xt x HX.out hz1 wr).mono ?_
            rintro e w6 ⟨rfl, b6⟩
            have OR6 := Lib.hid (OR.out.later b6)
            have BR6 := Lib.hid (BR.out.trans (b6.mono BR.out.size))
            clear b6 OR BR s4 ls f3 lf
            go_wp2_with (at_builtin; refine wpList_app1 rowSt rfl _ _ rfl w1.heap.size (some ⟨gl, 0, none⟩) m c (strV ss) rfl OR6.out #[.string x] rfl rfl (one_str x) (by omega) (by decide) BR6.out.size (m + 1) rfl (strV (ss ++ [x])) HZ.out ?_; rintro g5 c5 w7 p1 p2 p3 p4; have NX := Lib.hid (And.intro p1 (BR6.out.trans p3)); clear p1 p2 p3 p4 OR6 BR6)
            go_meet
            exact ⟨m + 1, c5, g5, ss ++ [x], rfl, by omega, Lib.hid NX.out.1, Lib.hid NX.out.2, HSL, HSM2⟩
        case rest =>
          obtain ⟨m2, c2, gl2, ss2, rfl, hm2, O7, B7, HSL7, HSM7⟩ := hcut
          obtain ⟨w7, hw7⟩ : ∃ W, wc = W := ⟨_, rfl⟩
          rw [hw7] at O7 B7 ⊢
          clear hw7 OR BR HSL0 HSM BF5 BS5 f3 lf
          obtain ⟨hd1, hhd1⟩ : ∃ l, fw :: (([xa, xb, xc] : List Int).take fn).map Lib.itoa ++ (if ft then [hexW (bl xt)] else []) = l := ⟨_, rfl⟩
          rw [hhd1] at HSM7
          have HHD := Lib.hid hhd1
          clear hhd1
          have BS7 := Lib.hid (BS.out.below B7.out BS.out.lt)
          have s5 := BS7.out.cell 5
          have ls := BS7.out.lt
          go_wp2_with fail
          go_loopw [5, 40] (fun vl vk wr => ∃ (k m c gl : Nat) (ss : List ByteArray), k ≤ n ∧ m = m2 + 2 * k ∧ vk = .int .i64 (k : Int) ∧ vl = .slice (some ⟨gl, 0, none⟩) m c ∧ Hid (Own wr w1.heap.size 9 1 (some ⟨gl, 0, none⟩) m c (strV ss)) ∧ Hid (Below w1.heap.size w1 wr) ∧ Hid (ss.length = m) ∧ Hid (ss.map bl = hd1 ++ hdW ((xh.take k).map hdB))) (fun _ vk _ => n - (intOf vk).toNat)
          case atStart => exact ⟨0, m2, c2, gl2, ss2, by omega, by omega, rfl, rfl, O7, B7, HSL7, Lib.hid (by rw [HSM7.out]; simp [hdW])⟩
          case round =>
            obtain ⟨k, m, c, gl, ss, hk, hmk, rfl, rfl, OR, BR, HSL0, HSM0⟩ := hrel
            have HMK := Lib.hid hmk
            have hm5 : m ≤ 6000010 := by omega
            clear hmk O7 B7 s5 ls
            by_cases hlt : k < n
            · have hkd : decide ((k : Int) < (n : Int)) = true := decide_eq_true (by omega)
              obtain ⟨⟨h1, h2⟩, hv⟩ : ∃ v, xh[k]? = some v := ⟨xh[k]'(by have := HN.out; omega), List.getElem?_eq_getElem _⟩
              obtain ⟨hb1, hb2⟩ := hdV_at hv
              obtain ⟨q1, o1, e1', hc1⟩ := HR.out _ _ hb1
              obtain ⟨q2, o2, e2', hc2⟩ := HR.out _ _ hb2
              subst e1'
              injection e2' with e2'
              injection e2' with j1 j2 _
              subst j1 j2
              have BWr := BW1.out.trans (BR.out.mono (by have := BW1.out.size; exact this))
              have m1' := (BWr.cell (World.block_lt_of_cell? _ _ hc1)).trans hc1
              have m2' := (BWr.cell (World.block_lt_of_cell? _ _ hc2)).trans hc2
              rw [← Nat.add_assoc] at m2'
              obtain ⟨h1s, h2s⟩ := HZ3.out _ (List.mem_of_getElem? hv)
              dsimp only at h1s h2s m1' m2'
              obtain ⟨e1, he1⟩ : ∃ x, stB (hexW (bl h1)) = x := ⟨_, rfl⟩
              obtain ⟨e2, he2⟩ : ∃ x, stB (hexW (bl h2)) = x := ⟨_, rfl⟩
              have He1 := Lib.hid he1
              have He2 := Lib.hid he2
              have HSM : Hid ((ss ++ [e1, e2]).map bl = hd1 ++ hdW ((xh.take (k + 1)).map hdB)) := Lib.hid (by
                rw [List.map_append, HSM0.out, List.take_add_one, hv, List.map_append, ← he1, ← he2]
                unfold hdW
                rw [List.flatMap_append, List.append_assoc]
                rfl)
              have HSL : Hid ((ss ++ [e1, e2]).length = m + 2) := Lib.hid (by rw [List.length_append, HSL0.out]; rfl)
              have HZ : Hid (strV ss ++ strV [e1, e2] = strV (ss ++ [e1, e2])) := Lib.hid (by rw [strV_app])
              have HM3 : Hid (m + 2 = m2 + 2 * (k + 1)) := Lib.hid (by have := HMK.out; omega)
              have hk0 : (0 : Int) ≤ (k : Int) := by omega
              have hk1 : (k : Int) < (n : Int) := by omega
              have BN := Lib.hid (Box.new wr #[.string h1, .string h2] 36)
              have BA := Lib.hid ((Below.refl wr.heap.size wr).alloc (Nat.le_refl _) (.cells #[.string h1, .string h2] 36))
              clear hv hb1 hb2 hc1 hc2 he1 he2 HSM0 HSL0 BWr
              go_upto_region 12 with fail
              obtain ⟨wa, hwa⟩ : ∃ W, wr.alloc (.cells #[.string h1, .string h2] 36) = W := ⟨_, rfl⟩
              obtain ⟨bx, hbx⟩ : ∃ b, wr.heap.size = b := ⟨_, rfl⟩
              have HNE : Hid (bx ≠ gl) := Lib.hid (by have := OR.out.lt.2; omega)
              have BOX : Hid (Box wa bx #[.string h1, .string h2] 36) := Lib.hid (by have h9 := BN.out; rw [hwa, hbx] at h9; exact h9)
              have ORa := Lib.hid (OR.out.later BA.out)
              have BX1a := Lib.hid (BR.out.trans (BA.out.mono BR.out.size))
              rw [hwa] at ORa BX1a ⊢
              rw [hbx]
              obtain ⟨OR, BX1⟩ := And.intro ORa BX1a
              clear hwa hbx BN BA BR ORa BX1a m1' m2'
              refine wp_region_last 9 (fun w' => Box w' bx #[.string h1, .string h2] 36 ∧ Below w1.heap.size w1 w') (by kernel_rfl) (⟨BOX.out.drew, BX1.out.drew⟩) (fun hHeld hClosed => ?_)
              refine wpAnyL_take (i := 0) (v := ?_) rfl (by kernel_rfl) (by kernel_rfl) (by kernel_rfl) (by kernel_rfl) (fun _ _ _ h => h) (by kernel_rfl) hClosed (Or.inl ⟨by rfl, ?_⟩) hHeld (fun hClosed => ?_)
              rotate_left
              · intro wv hSw; go_simp; all_goals (with_reducible rfl)
              (try simp only [List.getElem_toArray, List.getElem_cons_zero, put_at, List.set])
              refine wpAnyL_take (i := 1) (v := ?_) rfl (by kernel_rfl) (by kernel_rfl) (by kernel_rfl) (by kernel_rfl) (fun _ _ _ h => h) (by kernel_rfl) hClosed (Or.inl ⟨by rfl, ?_⟩) hHeld (fun hClosed => ?_)
              rotate_left
              · intro wv hSw; go_simp; all_goals (with_reducible rfl)
              (try simp only [List.getElem_toArray, List.getElem_cons_succ, List.getElem_cons_zero, put_at, List.set])
              refine wpAnyL_take (i := 2) (v := ?_) rfl (by kernel_rfl) (by kernel_rfl) (by kernel_rfl) (by kernel_rfl) (fun _ _ _ h => h) (by kernel_rfl) hClosed (Or.inl ⟨by rfl, ?_⟩) hHeld (fun hClosed => ?_)
              rotate_left
              · intro wv hSw; have x0 := hSw.1.cell 0; have x1 := hSw.1.cell 1; go_simp; all_goals (with_reducible rfl)
              (try simp only [List.getElem_toArray, List.getElem_cons_succ, List.getElem_cons_zero, put_at, List.set])
              refine wpAnyL_take (i := 4) (v := ?_) rfl (by kernel_rfl) (by kernel_rfl) (by kernel_rfl) (by kernel_rfl) (fun _ _ _ h => h) (by kernel_rfl) hClosed (Or.inl ⟨by rfl, ?_⟩) hHeld (fun hClosed => ?_)
              rotate_left
              · intro wv hSw; go_simp; all_goals (with_reducible rfl)
              (try simp only [List.getElem_toArray, List.getElem_cons_succ, List.getElem_cons_zero, put_at, List.set])
              refine wpAnyL_take (i := 5) (v := ?_) rfl (by kernel_rfl) (by kernel_rfl) (by kernel_rfl) (by kernel_rfl) (fun _ _ _ h => h) (by kernel_rfl) hClosed (Or.inl ⟨by rfl, ?_⟩) hHeld (fun hClosed => ?_)
              rotate_left
              · intro wv hSw; have x0 := hSw.1.cell 0; have x1 := hSw.1.cell 1; go_simp; all_goals (with_reducible rfl)
              (try simp only [List.getElem_toArray, List.getElem_cons_succ, List.getElem_cons_zero, put_at, List.set])
              refine wpAnyL_one (i := 3) rfl (by kernel_rfl) (by kernel_rfl) hClosed (fun KK hK => ?_)
              go_simp
              refine (encode_at h1 e1 He1.out h1s _).mono ?_
              rintro e w6 ⟨rfl, b6⟩
              go_wp2_with fail
              refine hK.out _ _ ?_ (fun hClosed hHeld => ?_)
              · exact ⟨hHeld.1.later b6, hHeld.2.trans (b6.mono hHeld.2.size)⟩
              clear hK KK
              (first | simp only [List.getElem_toArray, List.getElem_cons_succ, List.getElem_cons_zero, put_at, List.set] | (try simp only [put_at, List.set]))
              have OR6 := Lib.hid (OR.out.drew.later b6)
              clear b6
              refine wpAnyL_one (i := 6) rfl (by kernel_rfl) (by kernel_rfl) hClosed (fun KK hK => ?_)
              go_simp
              refine (encode_at h2 e2 He2.out h2s _).mono ?_
              rintro e w7 ⟨rfl, b7⟩
              go_wp2_with fail
              refine hK.out _ _ ?_ (fun hClosed hHeld => ?_)
              · exact ⟨hHeld.1.later b7, hHeld.2.trans (b7.mono hHeld.2.size)⟩
              clear hK KK
              (first | simp only [List.getElem_toArray, List.getElem_cons_succ, List.getElem_cons_zero, put_at, List.set] | (try simp only [put_at, List.set]))
              have OR7 := Lib.hid (OR6.out.later b7)
              clear b7
              refine wpAnyL_one (i := 7) rfl (by kernel_rfl) (by kernel_rfl) hClosed (fun KK hK => ?_)
              go_simp
              refine hK.out _ _ ?_ (fun hClosed hHeld => ?_)
              · exact ⟨hHeld.1.alloc _, hHeld.2.alloc hHeld.2.size _⟩
              clear hK KK
              (first | simp only [List.getElem_toArray, List.getElem_cons_succ, List.getElem_cons_zero, put_at, List.set] | (try simp only [put_at, List.set]))
              refine wpAnyL_one (i := 8) rfl (by kernel_rfl) (by kernel_rfl) hClosed (fun KK hK => ?_)
              refine step_appR rowSt rfl _ _ rfl w1.heap.size (some ⟨gl, 0, none⟩) m c (strV ss) rfl (OR7.out.alloc _) _ 0 2 2 (strV [e1, e2]) rfl (by decide) rfl (new_cells _ _ _) (strV_one _) (by omega) (by decide) hHeld.2.size (m + 2) rfl (strV (ss ++ [e1, e2])) HZ.out ?_
              rintro g5 c5 w9 p1 p2 p3 p4
              have hbx9 := hHeld.1.only (Only.of_grown (R := fun q => q = gl) p2 (fun q e => by injection e with e; exact e.symm)) (fun e => HNE.out e)
              have FINR := Lib.hid (hHeld.2.trans p3)
              refine hK.out _ _ ?_ (fun hClosed hHeld => ?_)
              · exact ⟨hbx9, hHeld.2.trans p3⟩
              clear hK KK
              (first | simp only [List.getElem_toArray, List.getElem_cons_succ, List.getElem_cons_zero, put_at, List.set] | (try simp only [put_at, List.set]))
              refine wpAnyL_last rfl (by kernel_rfl) (by kernel_rfl) (fun KK hK => ?_)
              go_simp
              refine hK.out _ _ ?_
              (try simp only [put_at, List.set])
              clear hHeld hbx9 HNE BOX OR OR6 OR7
              go_wp2
              go_roundw
              case rel => exact ⟨k + 1, m + 2, c5, g5, ss ++ [e1, e2], by omega, HM3.out, by go_num, rfl, Lib.hid p1, FINR, HSL, HSM⟩
              case measure => simp [intOf]; omega
            · have hkd : decide ((k : Int) < (n : Int)) = false := decide_eq_false (by omega)
              have HF : Hid (ss.map bl = wordsS ⟨fk, fw, fn, ft, fh⟩ (spOf ⟨xk, xa, xb, xc, xt, xh⟩)) := Lib.hid (by
                rw [HSM0.out, List.take_of_length_le (by have := HN.out; omega), ← HHD.out]
                unfold wordsS numsS spOf
                simp)
              have HL9 : Hid (m ≤ 9000000) := Lib.hid (by omega)
              have HO9 := Lib.hid (OR.out.mono BW1.out.size)
              have HB9 := Lib.hid (BW1.out.trans (BR.out.mono BW1.out.size))
              clear OR BR HSM0 HHD
              go_wp2
              go_ret
              exact ⟨ss, gl, m, c, rfl, HSL0.out, HF.out, HL9.out, HO9.out, HB9.out⟩
end Go.Proofs.YtbfdklmljcdonaaDoor
