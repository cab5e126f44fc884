/- Part of a chain: FnAwM, FnAwk. -/
import Derived.Test.YtimkgaokcldgkaaGreatDoorFd26
import Derived.Test.YtimkgaokcldgkaaGreatDoorFd27
/- Layer 17's fixed fact: the mathematics. -/
namespace Go.Proofs.YtimkgaokcldgkaaGreatDoor
open Go Go.RowKit Go.Maps
set_option linter.unusedVariables false
set_option linter.unusedSimpArgs false
set_option maxRecDepth 100000

def awR1 : Rq := ⟨1, ⟨#[104]⟩, ⟨#[47, 97]⟩, 0, 0⟩
def awR2 : Rq := ⟨2, ⟨#[104]⟩, ⟨#[47, 98]⟩, 0, 0⟩
def awR9 : Rq := ⟨9, ⟨#[]⟩, ⟨#[]⟩, 0, 0⟩
def awF0 : Ft := ft0 2 1
def awF1 : Ft := insF awF0 3 awR1
def awF2 : Ft := insF awF1 3 awR2
def fwS1 : Int → List Rq := setR (fun _ => []) 3 (insQ [] awR1)
def fwS2 : Int → List Rq := setR fwS1 3 (insQ (fwS1 3) awR2)
theorem aw_s2 : fwS2 3 = [awR1, awR2] := by
  show insQ [awR1] awR2 = _
  have e : posQ [awR1] awR2 = 1 := by decide
  unfold insQ
  rw [e]
  rfl
theorem few_segs_ {Z c : Nat} {g : Lg} (h : CLog Z c g) (hZ : Z ≤ 127) (hc : c ≤ 40) : g.D.S.length ≤ 3 := by
  have h1 := h.disk.segs
  have h2 : c * Z ≤ 40 * 127 := Nat.mul_le_mul hc hZ
  have h3 : (g.D.S.length - 1) * 1921 ≤ (g.D.S.length - 1) * (2048 - Z) := Nat.mul_le_mul_left _ (by omega)
  omega
theorem awake17_model : ∃ g1 g2 : Lg, putL (openL ⟨[], [], moI 9, 0, 0⟩ 4) (rcQ awR1) = (g1, 0) ∧ putL g1 (rcQ awR2) = (g2, 0) ∧ g1.n = 4 ∧ g2.n = 4 ∧ loadL g2 1 = some (rcQ awR1) ∧ loadL g2 2 = some (rcQ awR2) := by
  have c0 : CLog 127 0 (openL ⟨[], [], moI 9, 0, 0⟩ 4) := CLog.new 127 9 4 (by decide)
  have s1 : soundR (rcQ awR1) := by decide
  have s2 : soundR (rcQ awR2) := by decide
  have n0 : (openL ⟨[], [], moI 9, 0, 0⟩ 4).n = 4 := rfl
  obtain ⟨g1, p1, c1, l1, n1⟩ := c0.put (by decide) (by have := few_segs_ c0 (by decide) (by decide); rw [n0]; omega) (r := rcQ awR1) rfl s1 ⟨by decide, by decide⟩ (by unfold encR; rw [recB_length, contR_length]; decide) (by decide)
  rw [n0] at n1
  obtain ⟨g2, p2, c2, l2, n2⟩ := c1.put (by decide) (by have := few_segs_ c1 (by decide) (by decide); omega) (r := rcQ awR2) rfl s2 ⟨by decide, by decide⟩ (by unfold encR; rw [recB_length, contR_length]; decide) (by decide)
  rw [n1] at n2
  have l0 : logS (openL ⟨[], [], moI 9, 0, 0⟩ 4).D.S = [] := rfl
  rw [l0, List.nil_append] at l1
  rw [l1] at l2
  exact ⟨g1, g2, p1, p2, n1, n2, by rw [c2.agr.load, l2]; rfl, by rw [c2.agr.load, l2]; rfl⟩
end Go.Proofs.YtimkgaokcldgkaaGreatDoor
/- Layer 17's fixed fact, walked. Written by gen_awk17.py. -/
namespace Go.Proofs.YtimkgaokcldgkaaGreatDoor
open Go Go.RowKit Go.Maps
set_option linter.unusedVariables false
set_option linter.unusedSimpArgs false
set_option maxRecDepth 100000

set_option maxHeartbeats 4000000 in
theorem awake17_at (w : World) (hn : NowM w) : Calls Tryz.prog 22 #[] w fun e w' => e = .returned (.bool true) ∧ Below w.heap.size w w' := by
  obtain ⟨g1, g2, m1, m2, n1, n2, l1, l2⟩ := awake17_model
  have M1 := Lib.hid m1
  have M2 := Lib.hid m2
  have N1 := Lib.hid n1
  have N2 := Lib.hid n2
  have L1 := Lib.hid l1
  have L2 := Lib.hid l2
  have HN := Lib.hid hn
  have K3 : Hid (okI 3) := Lib.hid (okI_of (by decide) (by decide))
  clear m1 m2 n1 n2 l1 l2 hn
  have NW := Lib.hid (s_new HN.out (Below.refl _ w) 9)
  go_enter Tryz.func22, Tryz.ntmps22
  go_wp2_with fail
  refine NW.out.mono ?_
  rintro e w1 ⟨d, RD, rfl, hd, _, _⟩
  have D1 := Lib.hid hd
  clear hd NW
  have OP := Lib.hid (s_open D1.out 4)
  go_wp2_with fail
  refine OP.out.mono ?_
  rintro e w2 ⟨L, RL, rfl, hs, _, _⟩
  have S2 := Lib.hid hs
  clear hs OP D1
  have FN := Lib.hid (fnew_at 2 1 L w2)
  go_wp2_with fail
  refine FN.out.mono ?_
  rintro e w3 ⟨f, RF, rfl, hf, hb, hg⟩
  have T3 := Lib.hid (FtS.new S2.out hf hb hg)
  have T3 : Hid (FtB w d L 32768 (openL ⟨[], [], moI 9, 0, 0⟩ 4) RD RL f 0 RF awF0 [] w3) := Lib.hid ⟨T3.out, fun b hb => by cases hb⟩
  clear hf hb hg FN S2
  go_upto_region 4 with fail
  refine code_forget (fun W => Hid (FtB w d L 32768 (openL ⟨[], [], moI 9, 0, 0⟩ 4) RD RL f 0 RF awF0 [(w3.heap.size, .cells #[.int .i64 1, .string ⟨#[104]⟩, .string ⟨#[47, 97]⟩, .int .i64 0, .int .i64 0] 35 (0, 0))] W)) (Lib.hid (T3.out.add _ _)) ?_
  obtain ⟨rb, hrb⟩ : ∃ p, w3.heap.size = p := ⟨_, rfl⟩
  rw [hrb]
  clear hrb T3
  rintro w4 T4
  go_upto_region 5 with fail
  refine code_forget (fun W => Hid (FtB w d L 32768 (openL ⟨[], [], moI 9, 0, 0⟩ 4) RD RL f 0 RF awF0 [(w4.heap.size, .cells #[.int .i64 2, .string ⟨#[104]⟩, .string ⟨#[47, 98]⟩, .int .i64 0, .int .i64 0] 35 (0, 0)), (rb, .cells #[.int .i64 1, .string ⟨#[104]⟩, .string ⟨#[47, 97]⟩, .int .i64 0, .int .i64 0] 35 (0, 0))] W)) (Lib.hid (T4.out.add _ _)) ?_
  obtain ⟨sb, hsb⟩ : ∃ p, w4.heap.size = p := ⟨_, rfl⟩
  rw [hsb]
  clear hsb T4
  rintro w5 T5
  obtain ⟨bs, hbs⟩ : ∃ bs, ([(sb, .cells #[.int .i64 2, .string ⟨#[104]⟩, .string ⟨#[47, 98]⟩, .int .i64 0, .int .i64 0] 35 (0, 0)), (rb, .cells #[.int .i64 1, .string ⟨#[104]⟩, .string ⟨#[47, 97]⟩, .int .i64 0, .int .i64 0] 35 (0, 0))] : Bxs) = bs := ⟨_, rfl⟩
  have HBR : Hid ((rb, .cells #[.int .i64 1, .string ⟨#[104]⟩, .string ⟨#[47, 97]⟩, .int .i64 0, .int .i64 0] 35 (0, 0)) ∈ bs) := Lib.hid (by rw [← hbs]; simp)
  have HBS : Hid ((sb, .cells #[.int .i64 2, .string ⟨#[104]⟩, .string ⟨#[47, 98]⟩, .int .i64 0, .int .i64 0] 35 (0, 0)) ∈ bs) := Lib.hid (by rw [← hbs]; simp)
  rw [hbs] at T5
  clear hbs
  have P1 := Lib.hid (s_put T5.out.ft.sp (rcQ awR1) rfl (okI_of (by decide) (by decide)) (by omega) (by omega) (by show (4 : Int) ≤ 1000; decide) _ M1.out)
  unfold rcQ awR1 reqL at P1
  dsimp only at P1
  have B5 := Lib.hid (T5.out.box HBR.out)
  have a0 := B5.out.cell 0
  have a1 := B5.out.cell 1
  have a2 := B5.out.cell 2
  have a3 := B5.out.cell 3
  have a4 := B5.out.cell 4
  go_wp2_with fail
  refine P1.out.mono ?_
  rintro e w6 ⟨rfl, ha⟩
  obtain ⟨RD1, RL1, ht6⟩ := T5.out.spa ha
  have T6 := Lib.hid ht6
  clear ha ht6 P1 T5 B5 a0 a1 a2 a3 a4
  have P2 := Lib.hid (s_put T6.out.ft.sp (rcQ awR2) rfl (okI_of (by decide) (by decide)) (by omega) (by omega) (by rw [N1.out]; decide) _ M2.out)
  unfold rcQ awR2 reqL at P2
  dsimp only at P2
  have B6 := Lib.hid (T6.out.box HBS.out)
  have a0 := B6.out.cell 0
  have a1 := B6.out.cell 1
  have a2 := B6.out.cell 2
  have a3 := B6.out.cell 3
  have a4 := B6.out.cell 4
  go_wp2_with fail
  refine P2.out.mono ?_
  rintro e w7 ⟨rfl, ha⟩
  obtain ⟨RD2, RL2, ht7⟩ := T6.out.spa ha
  have HB7 := Lib.hid ht7
  clear ha ht7 P2 T6 B6 a0 a1 a2 a3 a4
  obtain ⟨K, hK⟩ : ∃ K, 32768 + 1 + 1 = K := ⟨_, rfl⟩
  have HB7 : Hid (FtB w d L K g2 RD2 RL2 f 0 RF awF0 bs w7) := Lib.hid (by rw [← hK]; exact HB7.out)
  clear hK
  have AD1 : Hid (∀ W, FtB w d L K g2 RD2 RL2 f 0 RF awF0 bs W → Calls Tryz.prog 10 #[.pointer (some ⟨f, 0, none⟩), .int .i64 3, .agg #[.int .i64 1, .string ⟨#[104]⟩, .string ⟨#[47, 97]⟩, .int .i64 0, .int .i64 0]] W fun e W' => e = .returned (.int .i64 0) ∧ ∃ R2, Hid (FtB w d L K g2 RD2 RL2 f 1 R2 awF1 bs W' ∧ FtW awF1 g2 fwS1)) := Lib.hid (fun W hW => (ses_add hW (FtW.nil 2 1 g2) 3 K3.out awR1 (okI_of (by decide) (by decide)) (by omega) (Or.inl L1.out)).mono fun e W' hp => by
    rcases hp with ⟨p1, _⟩ | ⟨_, p2, _⟩ | ⟨_, _, p3, R2, p4, p5⟩
    · cases p1
    · exact absurd p2 (by decide)
    · exact ⟨p3, R2, Lib.hid ⟨p4, p5⟩⟩)
  have AD2 : Hid (∀ W R3, FtB w d L K g2 RD2 RL2 f 1 R3 awF1 bs W → FtW awF1 g2 fwS1 → Calls Tryz.prog 10 #[.pointer (some ⟨f, 0, none⟩), .int .i64 3, .agg #[.int .i64 2, .string ⟨#[104]⟩, .string ⟨#[47, 98]⟩, .int .i64 0, .int .i64 0]] W fun e W' => e = .returned (.int .i64 0) ∧ ∃ R2, Hid (FtB w d L K g2 RD2 RL2 f 2 R2 awF2 bs W' ∧ FtW awF2 g2 fwS2)) := Lib.hid (fun W R3 hW hF => (ses_add hW hF 3 K3.out awR2 (okI_of (by decide) (by decide)) (by omega) (Or.inl L2.out)).mono fun e W' hp => by
    rcases hp with ⟨p1, _⟩ | ⟨_, p2, _⟩ | ⟨_, _, p3, R2, p4, p5⟩
    · exact absurd p1 (by decide)
    · exact absurd p2 (by decide)
    · exact ⟨p3, R2, Lib.hid ⟨p4, p5⟩⟩)
  go_upto_region 7 with fail
  refine wp_region_last 7 (fun w' => Box w' rb #[.int .i64 1, .string ⟨#[104]⟩, .string ⟨#[47, 97]⟩, .int .i64 0, .int .i64 0] 35 ∧ Box w' sb #[.int .i64 2, .string ⟨#[104]⟩, .string ⟨#[47, 98]⟩, .int .i64 0, .int .i64 0] 35) (by kernel_rfl) (⟨(HB7.out.box HBR.out).drew, (HB7.out.box HBS.out).drew⟩) (fun hHeld hClosed => ?_)
  refine wpAnyL_take (i := 0) (v := ?_) rfl (by kernel_rfl) (by kernel_rfl) (by kernel_rfl) (by kernel_rfl) (fun _ _ _ h => h) (by kernel_rfl) hClosed (Or.inl ⟨by rfl, ?_⟩) hHeld (fun hClosed => ?_)
  rotate_left
  · intro wv hSw; go_simp; all_goals (with_reducible rfl)
  (try simp only [List.getElem_toArray, List.getElem_cons_zero, put_at, List.set])
  refine wpAnyL_take (i := 1) (v := ?_) rfl (by kernel_rfl) (by kernel_rfl) (by kernel_rfl) (by kernel_rfl) (fun _ _ _ h => h) (by kernel_rfl) hClosed (Or.inl ⟨by rfl, ?_⟩) hHeld (fun hClosed => ?_)
  rotate_left
  · intro wv hSw; have a0 := hSw.1.cell 0; have a1 := hSw.1.cell 1; have a2 := hSw.1.cell 2; have a3 := hSw.1.cell 3; have a4 := hSw.1.cell 4; have b0 := hSw.2.cell 0; have b1 := hSw.2.cell 1; have b2 := hSw.2.cell 2; have b3 := hSw.2.cell 3; have b4 := hSw.2.cell 4; go_simp; all_goals (with_reducible rfl)
  (try simp only [List.getElem_toArray, List.getElem_cons_succ, List.getElem_cons_zero, put_at, List.set])
  refine wpAnyL_take (i := 3) (v := ?_) rfl (by kernel_rfl) (by kernel_rfl) (by kernel_rfl) (by kernel_rfl) (fun _ _ _ h => h) (by kernel_rfl) hClosed (Or.inl ⟨by rfl, ?_⟩) hHeld (fun hClosed => ?_)
  rotate_left
  · intro wv hSw; go_simp; all_goals (with_reducible rfl)
  (try simp only [List.getElem_toArray, List.getElem_cons_succ, List.getElem_cons_zero, put_at, List.set])
  refine wpAnyL_take (i := 4) (v := ?_) rfl (by kernel_rfl) (by kernel_rfl) (by kernel_rfl) (by kernel_rfl) (fun _ _ _ h => h) (by kernel_rfl) hClosed (Or.inl ⟨by rfl, ?_⟩) hHeld (fun hClosed => ?_)
  rotate_left
  · intro wv hSw; have a0 := hSw.1.cell 0; have a1 := hSw.1.cell 1; have a2 := hSw.1.cell 2; have a3 := hSw.1.cell 3; have a4 := hSw.1.cell 4; have b0 := hSw.2.cell 0; have b1 := hSw.2.cell 1; have b2 := hSw.2.cell 2; have b3 := hSw.2.cell 3; have b4 := hSw.2.cell 4; go_simp; all_goals (with_reducible rfl)
  (try simp only [List.getElem_toArray, List.getElem_cons_succ, List.getElem_cons_zero, put_at, List.set])
  refine wpAnyL_one (i := 2) rfl (by kernel_rfl) (by kernel_rfl) hClosed (fun KK hK => ?_)
  go_simp
  refine (AD1.out _ (HB7.out.later (Below.refl _ _).drew)).mono ?_
  rintro e wq ⟨rfl, R3, HQ⟩
  go_wp2_with fail
  refine hK.out _ _ ?_ (fun hClosed hHeld => ?_)
  · exact ⟨HQ.out.1.box HBR.out, HQ.out.1.box HBS.out⟩
  clear hK KK
  (first | simp only [List.getElem_toArray, List.getElem_cons_succ, List.getElem_cons_zero, put_at, List.set] | (try simp only [put_at, List.set]))
  refine wpAnyL_one (i := 5) rfl (by kernel_rfl) (by kernel_rfl) hClosed (fun KK hK => ?_)
  go_simp
  refine (AD2.out _ _ HQ.out.1 HQ.out.2).mono ?_
  rintro e wp ⟨rfl, R4, HP⟩
  go_wp2_with fail
  refine hK.out _ _ ?_ (fun hClosed hHeld => ?_)
  · exact ⟨HP.out.1.box HBR.out, HP.out.1.box HBS.out⟩
  clear hK KK
  (first | simp only [List.getElem_toArray, List.getElem_cons_succ, List.getElem_cons_zero, put_at, List.set] | (try simp only [put_at, List.set]))
  refine wpAnyL_take (i := 6) (v := ?_) rfl (by kernel_rfl) (by kernel_rfl) (by kernel_rfl) (by kernel_rfl) (fun _ _ _ h => h) (by kernel_rfl) hClosed (Or.inl ⟨by rfl, ?_⟩) hHeld (fun hClosed => ?_)
  rotate_left
  · intro wv hSw; go_simp; all_goals (with_reducible rfl)
  (try simp only [List.getElem_toArray, List.getElem_cons_succ, List.getElem_cons_zero, put_at, List.set])
  refine wpAnyL_last rfl (by kernel_rfl) (by kernel_rfl) (fun KK hK => ?_)
  go_simp
  refine hK.out _ _ ?_
  (try simp only [put_at, List.set])
  clear hHeld hClosed AD1 AD2 HB7
  have H8 := Lib.hid HP.out.1
  have W8 := Lib.hid HP.out.2
  have AD3 := Lib.hid (ses_add H8.out W8.out 3 K3.out awR9 (okI_of (by decide) (by decide)) (by omega) (Or.inr (Or.inr (by decide))))
  unfold awR9 rqA at AD3
  dsimp only at AD3
  clear HP HQ
  go_wp2_with fail
  refine AD3.out.mono ?_
  rintro e w9 hp
  rcases hp with ⟨p1, _⟩ | ⟨_, _, rfl, ht9⟩ | ⟨_, p2, _⟩
  rotate_left
  rotate_left
  · rw [aw_s2] at p2; exact absurd p2 (by decide)
  · exact absurd p1 (by decide)
  have H9 := Lib.hid ht9
  clear ht9 AD3 H8
  have FS1 := Lib.hid (ses_first H9.out W8.out 3 K3.out (by omega))
  unfold SesF at FS1
  rw [aw_s2] at FS1
  unfold awR1 rqA at FS1
  dsimp only at FS1
  go_wp2_with fail
  refine FS1.out.mono ?_
  rintro e w10 ⟨rfl, T1, ht10, hw10, _⟩
  have H10 := Lib.hid ht10
  have W10 := Lib.hid hw10
  clear ht10 hw10 FS1 H9 W8
  go_upto_region 10 with fail
  refine code_forget (fun W => Hid (FtB w d L K g2 RD2 RL2 f 2 R4 ⟨awF2.per, awF2.mem, awF2.R, awF2.hs, T1⟩ ((w10.heap.size, .cells #[.int .i64 1, .string ⟨#[104]⟩, .string ⟨#[47, 97]⟩, .int .i64 0, .int .i64 0] 35 (0, 0)) :: bs) W)) (Lib.hid (H10.out.add _ _)) ?_
  obtain ⟨xb, hxb⟩ : ∃ p, w10.heap.size = p := ⟨_, rfl⟩
  rw [hxb]
  clear hxb H10
  rintro w11 H11
  have DR := Lib.hid (ses_drop H11.out W10.out 1 (okI_of (by decide) (by decide)) (by omega))
  go_wp2_with fail
  refine DR.out.mono ?_
  rintro e w12 hp
  rcases hp with ⟨p1, _⟩ | ⟨x, R5, p1, rfl, p3, p4⟩
  · exact absurd p1 (by decide)
  obtain rfl : 3 = x := by
    have h9 : (some 3 : Option Int) = some x := p1
    injection h9
  have H12 := Lib.hid p3
  have W12 := Lib.hid p4
  clear p1 p3 p4 DR H11 W10
  obtain ⟨F3, hF3⟩ : ∃ G, drpF ⟨awF2.per, awF2.mem, awF2.R, awF2.hs, T1⟩ 3 1 = G := ⟨_, rfl⟩
  have HH3 : Hid (F3.hs.length = 1 ∧ F3.mem = 1) := Lib.hid (by rw [← hF3]; exact ⟨rfl, rfl⟩)
  rw [hF3] at H12 W12
  clear hF3
  have HS3 : Hid (setR fwS2 3 ((fwS2 3).filter fun y => !decide (y.id = 1)) 3 = [awR2]) := Lib.hid (by
    rw [show ∀ l, setR fwS2 3 l 3 = l from fun l => if_pos rfl, aw_s2]
    rfl)
  obtain ⟨S3, hS3⟩ : ∃ S, setR fwS2 3 ((fwS2 3).filter fun y => !decide (y.id = 1)) = S := ⟨_, rfl⟩
  rw [hS3] at W12 HS3
  clear hS3
  have FS2 := Lib.hid (ses_first H12.out W12.out 3 K3.out (by omega))
  unfold SesF at FS2
  rw [HS3.out] at FS2
  unfold awR2 rqA at FS2
  dsimp only at FS2
  go_wp2_with fail
  refine FS2.out.mono ?_
  rintro e w13 ⟨rfl, T2, ht13, hw13, hp13⟩
  have H13 := Lib.hid ht13
  have W13 := Lib.hid hw13
  have L13 : Hid (T2.length = 1) := Lib.hid (by
    have h9 := ht13.ft.fr.ok.lim
    have h8 : (T2.length : Int) ≤ F3.mem := h9
    have := HH3.out.2
    omega)
  clear ht13 hw13 hp13 FS2 H12 W12
  go_upto_region 12 with fail
  refine code_forget (fun W => Hid (FtB w d L K g2 RD2 RL2 f 2 R5 ⟨F3.per, F3.mem, F3.R, F3.hs, T2⟩ ((w13.heap.size, .cells #[.int .i64 2, .string ⟨#[104]⟩, .string ⟨#[47, 98]⟩, .int .i64 0, .int .i64 0] 35 (0, 0)) :: (xb, .cells #[.int .i64 1, .string ⟨#[104]⟩, .string ⟨#[47, 97]⟩, .int .i64 0, .int .i64 0] 35 (0, 0)) :: bs) W)) (Lib.hid (H13.out.add _ _)) ?_
  obtain ⟨yb, hyb⟩ : ∃ p, w13.heap.size = p := ⟨_, rfl⟩
  rw [hyb]
  clear hyb H13
  rintro w14 H14
  have BR := Lib.hid (H14.out.box (List.mem_cons_of_mem _ (List.mem_cons_of_mem _ HBR.out)))
  have BS := Lib.hid (H14.out.box (List.mem_cons_of_mem _ (List.mem_cons_of_mem _ HBS.out)))
  have BX := Lib.hid (H14.out.box (List.mem_cons_of_mem _ List.mem_cons_self))
  have BY := Lib.hid (H14.out.box List.mem_cons_self)
  have a0 := BR.out.cell 0
  have a1 := BR.out.cell 1
  have a2 := BR.out.cell 2
  have a3 := BR.out.cell 3
  have a4 := BR.out.cell 4
  have b0 := BS.out.cell 0
  have b1 := BS.out.cell 1
  have b2 := BS.out.cell 2
  have b3 := BS.out.cell 3
  have b4 := BS.out.cell 4
  have x0 := BX.out.cell 0
  have x1 := BX.out.cell 1
  have x2 := BX.out.cell 2
  have x3 := BX.out.cell 3
  have x4 := BX.out.cell 4
  have y0 := BY.out.cell 0
  have y1 := BY.out.cell 1
  have y2 := BY.out.cell 2
  have y3 := BY.out.cell 3
  have y4 := BY.out.cell 4
  have q1 := rq_eq 1 ⟨#[104]⟩ ⟨#[47, 97]⟩ 0 0 w14
  have q2 := rq_eq 2 ⟨#[104]⟩ ⟨#[47, 98]⟩ 0 0 w14
  have MM := Lib.hid (fmem_at H14.out.ft.fr 1 L13.out)
  go_wp2_with fail
  refine MM.out.mono ?_
  rintro e wz ⟨rfl, hw⟩
  subst wz
  clear MM q1 q2 x0 x1 x2 x3 x4 y0 y1 y2 y3 y4 a0 a1 a2 a3 a4 b0 b1 b2 b3 b4
  have HS := Lib.hid (ses_has H14.out W13.out 3 K3.out (by omega) ⟨#[47, 98]⟩ true (by rw [HS3.out]; simp [awR2]))
  go_wp2_with fail
  refine HS.out.mono ?_
  rintro e w15 ⟨rfl, ht15⟩
  have H15 := Lib.hid ht15
  clear ht15 HS H14
  have HS := Lib.hid (ses_has H15.out W13.out 3 K3.out (by omega) ⟨#[47, 97]⟩ false (by rw [HS3.out]; simp [awR2, ByteArray.toList_eq]))
  go_wp2_with fail
  refine HS.out.mono ?_
  rintro e w16 ⟨rfl, ht16⟩
  have H16 := Lib.hid ht16
  clear ht16 HS H15
  have CC := Lib.hid (fcount_at H16.out.ft.fr 1 HH3.out.1)
  go_wp2_with fail
  refine CC.out.mono ?_
  rintro e wz ⟨rfl, hw⟩
  subst wz
  clear CC
  have BR := Lib.hid (H16.out.box (List.mem_cons_of_mem _ (List.mem_cons_of_mem _ HBR.out)))
  have BS := Lib.hid (H16.out.box (List.mem_cons_of_mem _ (List.mem_cons_of_mem _ HBS.out)))
  have a0 := BR.out.cell 0
  have a1 := BR.out.cell 1
  have a2 := BR.out.cell 2
  have a3 := BR.out.cell 3
  have a4 := BR.out.cell 4
  have b0 := BS.out.cell 0
  have b1 := BS.out.cell 1
  have b2 := BS.out.cell 2
  have b3 := BS.out.cell 3
  have b4 := BS.out.cell 4
  have BF : Hid (Calls Tryz.prog 23 #[.agg #[.int .i64 1, .string ⟨#[104]⟩, .string ⟨#[47, 97]⟩, .int .i64 0, .int .i64 0], .agg #[.int .i64 2, .string ⟨#[104]⟩, .string ⟨#[47, 98]⟩, .int .i64 0, .int .i64 0]] w16 fun e w' => e = .returned (.bool true) ∧ Below w16.heap.size w16 w') := Lib.hid (before_at awR1 awR2 w16)
  go_wp2_with fail
  refine BF.out.mono ?_
  rintro e w17 ⟨rfl, hb⟩
  have BB := Lib.hid (H16.out.ft.bl.trans (hb.mono H16.out.ft.bl.size))
  clear hb BF
  go_wp2
  go_ret
  exact ⟨rfl, BB.out⟩
end Go.Proofs.YtimkgaokcldgkaaGreatDoor
