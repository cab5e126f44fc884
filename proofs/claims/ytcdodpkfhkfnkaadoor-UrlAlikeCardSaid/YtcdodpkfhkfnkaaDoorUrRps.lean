/- A text in its parts: the document's. -/
import Derived.Test.YtcdodpkfhkfnkaaDoorUrPrs
import Derived.BigRegion
import Derived.Deep.RegionWith
namespace Go.Proofs.YtcdodpkfhkfnkaaDoor
open Go.RowKit
set_option linter.unusedVariables false
set_option linter.unusedSimpArgs false
set_option maxRecDepth 10000

theorem ext_take (s : ByteArray) (k : Nat) : s.extract 0 k = strL ((btL s).take k) := by
  rw [← strL_btL (s.extract 0 k), btL_extract]
  simp
theorem ext_drop (s : ByteArray) (k : Nat) : s.extract k s.size = strL ((btL s).drop k) := by
  rw [← strL_btL (s.extract k s.size), btL_extract, List.take_of_length_le (by simp)]
/-- low at a beginning: what the test sees. -/
theorem low_take (s : ByteArray) (k : Nat) (u : List UInt8) : ((lowB (s.extract 0 k)).toList == u) = (((btL s).take k).map lwI == iv u) := by
  unfold lowB
  rw [tl_eq (lw_byts (btL_byts _)), ext_take, btL_strL ((btL_byts s).take k)]
theorem sch7 {l : List Int} {sec : Bool} {q : List Int} (h : schA l = some (sec, q)) : (sec = false ∧ (l.take 7).map lwI = [104, 116, 116, 112, 58, 47, 47] ∧ q = l.drop 7 ∧ 7 ≤ l.length) ∨ (sec = true ∧ (l.take 7).map lwI ≠ [104, 116, 116, 112, 58, 47, 47] ∧ (l.take 8).map lwI = [104, 116, 116, 112, 115, 58, 47, 47] ∧ q = l.drop 8 ∧ 8 ≤ l.length) := by
  unfold schA at h
  split at h
  · rename_i h7
    injection h with h
    injection h with h1 h2
    have hl := congrArg List.length h7
    simp at hl
    exact Or.inl ⟨h1.symm, h7, h2.symm, by omega⟩
  · split at h
    · rename_i h7 h8
      injection h with h
      injection h with h1 h2
      have hl := congrArg List.length h8
      simp at hl
      exact Or.inr ⟨h1.symm, h7, h8, h2.symm, by omega⟩
    · cases h
theorem sch_no {l : List Int} (h : schA l = none) : (l.take 7).map lwI ≠ [104, 116, 116, 112, 58, 47, 47] ∧ (l.take 8).map lwI ≠ [104, 116, 116, 112, 115, 58, 47, 47] := by
  unfold schA at h
  split at h
  · cases h
  · rename_i h7
    split at h
    · cases h
    · rename_i h8
      exact ⟨h7, h8⟩
set_option maxHeartbeats 2000000 in
theorem rparse_over (s : ByteArray) (h : 256 < s.size) (w : World) :
    Calls Tryd.prog 23 #[.string s] w fun e w' => e = .returned (prV .over) ∧ Below w.heap.size w w' := by
  have d : decide ((256 : Int) < (s.size : Int)) = true := decide_eq_true (by omega)
  go_enter Tryd.func23, Tryd.ntmps23
  go_wp2
  exact bodyPost_ret (v := .tuple #[.agg #[.string ⟨#[]⟩, .string ⟨#[]⟩, .int .i64 0, .string ⟨#[]⟩, .string ⟨#[]⟩, .bool false], .int .i64 9]) (by simp [results, Tryd.results23, go_sem]) rfl ⟨rfl, (Below.refl _ _).alloc (Nat.le_refl _) _⟩
set_option maxHeartbeats 2000000 in
theorem rparse_none (s : ByteArray) (hn : schA (btL s) = none) (hs : s.size ≤ 256) (w : World) :
    Calls Tryd.prog 23 #[.string s] w fun e w' => e = .returned (prV .form) ∧ Below w.heap.size w w' := by
  have d : decide ((256 : Int) < (s.size : Int)) = false := decide_eq_false (by omega)
  obtain ⟨h7, h8⟩ := sch_no hn
  have C : Hid (∀ (k : Nat) (W : World), Calls Tryd.prog 55 #[.string (s.extract 0 k)] W fun e w' => e = .returned (.string (lowB (s.extract 0 k))) ∧ Below W.heap.size W w') := Lib.hid (fun k W => rlow_at _ _ rfl (by rw [ext_take, strL_size, List.length_take, btL_length]; omega) W)
  obtain ⟨t7, ht7⟩ : ∃ t, lowB (s.extract 0 7) = t := ⟨_, rfl⟩
  obtain ⟨t8, ht8⟩ : ∃ t, lowB (s.extract 0 8) = t := ⟨_, rfl⟩
  have q7 : (t7.toList == [104, 116, 116, 112, 58, 47, 47]) = false := by rw [← ht7, low_take]; exact beq_eq_false_iff_ne.2 h7
  have q8 : (t8.toList == [104, 116, 116, 112, 115, 58, 47, 47]) = false := by rw [← ht8, low_take]; exact beq_eq_false_iff_ne.2 h8
  have C7 := Lib.hid (C.out 7)
  have C8 := Lib.hid (C.out 8)
  rw [ht7] at C7
  rw [ht8] at C8
  clear C ht7 ht8 h7 h8 hn
  by_cases z7 : s.size < 7
  · have e7 : decide ((7 : Int) ≤ (s.size : Int)) = false := decide_eq_false (by omega)
    have e8 : decide ((8 : Int) ≤ (s.size : Int)) = false := decide_eq_false (by omega)
    go_enter Tryd.func23, Tryd.ntmps23
    go_wp2
    exact bodyPost_ret (v := .tuple #[.agg #[.string ⟨#[]⟩, .string ⟨#[]⟩, .int .i64 0, .string ⟨#[]⟩, .string ⟨#[]⟩, .bool false], .int .i64 2]) (by simp [results, Tryd.results23, go_sem]) rfl ⟨rfl, ((Below.refl _ _).alloc (Nat.le_refl _) _).alloc (by simp) _⟩
  · have e7 : decide ((7 : Int) ≤ (s.size : Int)) = true := decide_eq_true (by omega)
    by_cases z8 : s.size < 8
    · have e8 : decide ((8 : Int) ≤ (s.size : Int)) = false := decide_eq_false (by omega)
      go_enter Tryd.func23, Tryd.ntmps23
      go_wp2_with fail
      refine calls_forget (fun w1 => Hid (Box w1 w.heap.size zU 41) ∧ Hid (Below w.heap.size w w1)) ⟨Lib.hid ((Box.new w _ _).alloc _), Lib.hid (((Below.refl _ _).alloc (Nat.le_refl _) _).alloc (by simp) _)⟩ ?_
      rintro w1 ⟨X1, B1⟩
      refine (C7.out w1).mono ?_
      rintro e w2 ⟨rfl, hb2⟩
      have X2 := Lib.hid (X1.out.later hb2)
      have B2 := Lib.hid (B1.out.trans (hb2.mono B1.out.size))
      clear hb2 X1 B1
      obtain ⟨⟨c0, c1, c2, c3, c4, c5⟩, ⟨f0, f1, f2, f3, f4, f5⟩, lt⟩ := box6 X2.out
      go_wp2
      exact bodyPost_ret (v := .tuple #[.agg #[.string ⟨#[]⟩, .string ⟨#[]⟩, .int .i64 0, .string ⟨#[]⟩, .string ⟨#[]⟩, .bool false], .int .i64 2]) (by simp [results, Tryd.results23, go_sem, c0, c1, c2, c3, c4, c5, f0, f1, f2, f3, f4, f5, lt]) rfl ⟨rfl, ((((((B2.out).setCell (p := ⟨w.heap.size, 0, none⟩) (Nat.le_refl _) _).setCell (p := ⟨w.heap.size, 1, none⟩) (Nat.le_refl _) _).setCell (p := ⟨w.heap.size, 2, none⟩) (Nat.le_refl _) _).setCell (p := ⟨w.heap.size, 3, none⟩) (Nat.le_refl _) _).setCell (p := ⟨w.heap.size, 4, none⟩) (Nat.le_refl _) _).setCell (p := ⟨w.heap.size, 5, none⟩) (Nat.le_refl _) _⟩
    · have e8 : decide ((8 : Int) ≤ (s.size : Int)) = true := decide_eq_true (by omega)
      go_enter Tryd.func23, Tryd.ntmps23
      go_wp2_with fail
      refine calls_forget (fun w1 => Hid (Box w1 w.heap.size zU 41) ∧ Hid (Below w.heap.size w w1)) ⟨Lib.hid ((Box.new w _ _).alloc _), Lib.hid (((Below.refl _ _).alloc (Nat.le_refl _) _).alloc (by simp) _)⟩ ?_
      rintro w1 ⟨X1, B1⟩
      refine (C7.out w1).mono ?_
      rintro e w2 ⟨rfl, hb2⟩
      have X2 := Lib.hid (X1.out.later hb2)
      have B2 := Lib.hid (B1.out.trans (hb2.mono B1.out.size))
      clear hb2 X1 B1
      go_wp2_with fail
      refine (C8.out w2).mono ?_
      rintro e w3 ⟨rfl, hb3⟩
      have X3 := Lib.hid (X2.out.later hb3)
      have B3 := Lib.hid (B2.out.trans (hb3.mono B2.out.size))
      clear hb3 X2 B2
      obtain ⟨⟨c0, c1, c2, c3, c4, c5⟩, ⟨f0, f1, f2, f3, f4, f5⟩, lt⟩ := box6 X3.out
      go_wp2
      exact bodyPost_ret (v := .tuple #[.agg #[.string ⟨#[]⟩, .string ⟨#[]⟩, .int .i64 0, .string ⟨#[]⟩, .string ⟨#[]⟩, .bool false], .int .i64 2]) (by simp [results, Tryd.results23, go_sem, c0, c1, c2, c3, c4, c5, f0, f1, f2, f3, f4, f5, lt]) rfl ⟨rfl, ((((((B3.out).setCell (p := ⟨w.heap.size, 0, none⟩) (Nat.le_refl _) _).setCell (p := ⟨w.heap.size, 1, none⟩) (Nat.le_refl _) _).setCell (p := ⟨w.heap.size, 2, none⟩) (Nat.le_refl _) _).setCell (p := ⟨w.heap.size, 3, none⟩) (Nat.le_refl _) _).setCell (p := ⟨w.heap.size, 4, none⟩) (Nat.le_refl _) _).setCell (p := ⟨w.heap.size, 5, none⟩) (Nat.le_refl _) _⟩
set_option maxHeartbeats 2000000 in
theorem rparse_some (s : ByteArray) (r : PR) (sec : Bool) (q : List Int) (hsc : schA (btL s) = some (sec, q)) (hr : parI (btL s) = r) (hs : s.size ≤ 256) (w : World) :
    Calls Tryd.prog 23 #[.string s] w fun e w' => e = .returned (prV r) ∧ Below w.heap.size w w' := by
  have d : decide ((256 : Int) < (s.size : Int)) = false := decide_eq_false (by omega)
  unfold parI at hr
  rw [if_neg (by rw [btL_length]; omega), hsc] at hr
  have HR : Hid ((match authI (usI sec) (q.take (fndI stopsI q)) with | none => PR.host | some (h, p) => match pqI (backI q) with | none => PR.form | some (x, y, k) => PR.ok sec h p x y k) = r) := Lib.hid hr
  have H7 := Lib.hid (sch7 hsc)
  have C : Hid (∀ (k : Nat) (W : World), Calls Tryd.prog 55 #[.string (s.extract 0 k)] W fun e w' => e = .returned (.string (lowB (s.extract 0 k))) ∧ Below W.heap.size W w') := Lib.hid (fun k W => rlow_at _ _ rfl (by rw [ext_take, strL_size, List.length_take, btL_length]; omega) W)
  obtain ⟨sc, hsb⟩ : ∃ v, strL (schI sec) = v := ⟨_, rfl⟩
  have HSB := Lib.hid hsb
  obtain ⟨rs, hrs⟩ : ∃ v, strL q = v := ⟨_, rfl⟩
  have HRS := Lib.hid hrs
  obtain ⟨us, hus⟩ : ∃ v, usI sec = v := ⟨_, rfl⟩
  have HUS := Lib.hid hus
  clear hr hsc hsb hrs hus
  have hqb : Byts q := by
    rcases H7.out with ⟨_, _, h, _⟩ | ⟨_, _, _, h, _⟩
    · rw [h]; exact (btL_byts s).drop 7
    · rw [h]; exact (btL_byts s).drop 8
  have hql : q.length ≤ 256 := by
    rcases H7.out with ⟨_, _, h, _⟩ | ⟨_, _, _, h, _⟩ <;> (rw [h, List.length_drop, btL_length]; omega)
  have us0 : us ≠ 0 := by rw [← HUS.out]; cases sec <;> decide
  have hrl : rs.size = q.length := by rw [← HRS.out, strL_size]
  have hbr : btL rs = q := by rw [← HRS.out, btL_strL hqb]
  rw [HUS.out] at HR
  obtain ⟨k, hk⟩ : ∃ k, fndI stopsI q = k := ⟨_, rfl⟩
  have hkl : k ≤ rs.size := by rw [hrl, ← hk]; exact fndI_le _ _
  obtain ⟨a, ha⟩ : ∃ a, q.take k = a := ⟨_, rfl⟩
  have hal : a.length ≤ 256 := by rw [← ha, List.length_take]; omega
  have hab : Byts a := by rw [← ha]; exact hqb.take k
  obtain ⟨m, hm⟩ : ∃ m, fndI [58] a = m := ⟨_, rfl⟩
  have hml : m ≤ a.length := by rw [← hm]; exact fndI_le _ _
  obtain ⟨p, hp⟩ : ∃ p, portD (a.drop (m + 1)) = p := ⟨_, rfl⟩
  obtain ⟨y, hy⟩ : ∃ y, nmOk (a.take m) = y := ⟨_, rfl⟩
  obtain ⟨g, hg⟩ : ∃ g, decide (m < a.length) = g := ⟨_, rfl⟩
  obtain ⟨h0, hh0⟩ : ∃ v, strL (a.map lwI) = v := ⟨_, rfl⟩
  have hh0l : h0.size = a.length := by rw [← hh0, strL_size, List.length_map]
  have hh0b : btL h0 = a.map lwI := by rw [← hh0, btL_strL (lw_byts hab)]
  obtain ⟨hn, hhn⟩ : ∃ v, strL ((a.take m).map lwI) = v := ⟨_, rfl⟩
  have hhnb : btL hn = (a.take m).map lwI := by rw [← hhn, btL_strL (lw_byts (hab.take m))]
  have hhnl : hn.size = (a.take m).length := by rw [← hhn, strL_size, List.length_map]
  obtain ⟨b0, hb0⟩ : ∃ v, strL (q.drop k) = v := ⟨_, rfl⟩
  have hb0b : btL b0 = q.drop k := by rw [← hb0, btL_strL (hqb.drop k)]
  have hb0l : b0.size ≤ 256 := by rw [← hb0, strL_size, List.length_drop]; omega
  obtain ⟨k2, hk2⟩ : ∃ v, fndI [35] (q.drop k) = v := ⟨_, rfl⟩
  have hk2l : k2 ≤ b0.size := by rw [← hb0, strL_size, ← hk2]; exact fndI_le _ _
  obtain ⟨bk, hbk⟩ : ∃ v, backI q = v := ⟨_, rfl⟩
  have hbk2 : (q.drop k).take k2 = bk := by rw [← hbk]; unfold backI; rw [hk, hk2]
  have hbkb : Byts bk := by rw [← hbk2]; exact (hqb.drop k).take k2
  have hbkl : bk.length ≤ 256 := by rw [← hbk2, List.length_take, List.length_drop]; omega
  obtain ⟨b1, hb1⟩ : ∃ v, strL bk = v := ⟨_, rfl⟩
  have hb1b : btL b1 = bk := by rw [← hb1, btL_strL hbkb]
  have hb1l : b1.size = bk.length := by rw [← hb1, strL_size]
  obtain ⟨k3, hk3⟩ : ∃ v, fndI [63] bk = v := ⟨_, rfl⟩
  have hb1z : b1.size ≤ 256 := by omega
  have hk3l : k3 ≤ b1.size := by rw [hb1l, ← hk3]; exact fndI_le _ _
  obtain ⟨n4, hn4⟩ : ∃ v, strL (bk.take k3) = v := ⟨_, rfl⟩
  obtain ⟨n5, hn5⟩ : ∃ v, strL (bk.drop (k3 + 1)) = v := ⟨_, rfl⟩
  have HPQ : Hid (pqI bk = match nrmI (bk.take k3), nrmI (bk.drop (k3 + 1)) with | some x, some y => some (cleanI x, y, decide (k3 < bk.length)) | _, _ => none) := Lib.hid (by unfold pqI; rw [hk3]; rfl)
  obtain ⟨ak, hak⟩ : ∃ v, decide (k3 < bk.length) = v := ⟨_, rfl⟩
  obtain ⟨nx, hnx⟩ : ∃ v, nrmI (bk.take k3) = v := ⟨_, rfl⟩
  obtain ⟨ny, hny⟩ : ∃ v, nrmI (bk.drop (k3 + 1)) = v := ⟨_, rfl⟩
  obtain ⟨pv, hpv⟩ : ∃ v : Int, (if g then p else us) = v := ⟨_, rfl⟩
  have HAU : Hid (authI us (q.take k) = if pv = 0 then none else if y then some ((a.take m).map lwI, pv) else none) := Lib.hid (by
    rw [ha]
    unfold authI
    rw [hm, hy, hp, ← hpv]
    cases g with
    | true =>
      rw [if_pos (of_decide_eq_true hg), if_pos rfl]
      cases y <;> by_cases h : p = 0 <;> simp [h]
    | false =>
      rw [if_neg (of_decide_eq_false hg)]
      simp only [Bool.false_eq_true, if_false]
      rw [if_neg us0])
  rw [hnx, hny, hak] at HPQ
  rw [hk, hbk] at HR
  -- the calls
  have C1 : Hid (∀ W : World, Calls Tryd.prog 56 #[.string rs, .string ⟨#[47, 63, 35]⟩] W fun e w' => e = .returned (.int .i64 (k : Int)) ∧ W = w') := Lib.hid (fun W => (rfind_at rs ⟨#[47, 63, 35]⟩ k (by rw [hbr]; exact hk) (by omega) (by decide) W).mono fun _ _ ⟨h1, h2⟩ => ⟨h1, h2.symm⟩)
  have C2 : Hid (∀ W : World, Calls Tryd.prog 55 #[.string (rs.extract 0 k)] W fun e w' => e = .returned (.string h0) ∧ Below W.heap.size W w') := Lib.hid (fun W => rlow_at _ _ (by unfold lowB; rw [ext_take, hbr, ha, btL_strL hab]; exact hh0) (by rw [ext_take, hbr, ha, strL_size]; omega) W)
  have EX1 : Hid (rs.extract k rs.size = b0) := Lib.hid (by rw [ext_drop, hbr]; exact hb0)
  have C3 : Hid (∀ W : World, Calls Tryd.prog 56 #[.string h0, .string ⟨#[58]⟩] W fun e w' => e = .returned (.int .i64 (m : Int)) ∧ W = w') := Lib.hid (fun W => (rfind_at h0 ⟨#[58]⟩ m (by rw [hh0b]; exact (fnd_lw 58 lw_colon a).trans hm) (by omega) (by decide) W).mono fun _ _ ⟨h1, h2⟩ => ⟨h1, h2.symm⟩)
  have DG : Hid (decide ((m : Int) < (h0.size : Int)) = g) := Lib.hid (by rw [← hg, hh0l, decide_eq_decide]; omega)
  have C4 : Hid (g = true → ∀ W : World, Calls Tryd.prog 57 #[.string (h0.extract (m + 1) h0.size)] W fun e w' => e = .returned (.int .i64 p) ∧ W = w') := Lib.hid (fun _ W => (rport_at _ p (by rw [ext_drop, btL_strL (by rw [hh0b]; exact (lw_byts hab).drop _), hh0b, ← List.map_drop, portD_lw]; exact hp) (by rw [ext_drop, strL_size, List.length_drop, btL_length]; omega) W).mono fun _ _ ⟨h1, h2⟩ => ⟨h1, h2.symm⟩)
  have EX2 : Hid (h0.extract 0 m = hn) := Lib.hid (by rw [ext_take, hh0b, ← List.map_take]; exact hhn)
  have EX3 : Hid (g = false → h0 = hn) := Lib.hid (fun e => by
    rw [← hh0, ← hhn, List.take_of_length_le (by have := of_decide_eq_false (e ▸ hg : decide (m < a.length) = false); omega)])
  have C5 : Hid (∀ W : World, Calls Tryd.prog 58 #[.string hn] W fun e w' => e = .returned (.bool y) ∧ Below W.heap.size W w') := Lib.hid (fun W => rnamed_at hn y (by rw [hhnb, hhnl, ← nm_labels]; exact hy) (by rw [hhnl, List.length_take]; omega) W)
  have C6 : Hid (∀ W : World, Calls Tryd.prog 56 #[.string b0, .string ⟨#[35]⟩] W fun e w' => e = .returned (.int .i64 (k2 : Int)) ∧ W = w') := Lib.hid (fun W => (rfind_at b0 ⟨#[35]⟩ k2 (by rw [hb0b]; exact hk2) (by omega) (by decide) W).mono fun _ _ ⟨h1, h2⟩ => ⟨h1, h2.symm⟩)
  have EX4 : Hid (b0.extract 0 k2 = b1) := Lib.hid (by rw [ext_take, hb0b, hbk2]; exact hb1)
  have C7 : Hid (∀ W : World, Calls Tryd.prog 56 #[.string b1, .string ⟨#[63]⟩] W fun e w' => e = .returned (.int .i64 (k3 : Int)) ∧ W = w') := Lib.hid (fun W => (rfind_at b1 ⟨#[63]⟩ k3 (by rw [hb1b]; exact hk3) (by omega) (by decide) W).mono fun _ _ ⟨h1, h2⟩ => ⟨h1, h2.symm⟩)
  have EX5 : Hid (b1.extract 0 k3 = n4) := Lib.hid (by rw [ext_take, hb1b]; exact hn4)
  have EX6 : Hid (b1.extract (k3 + 1) b1.size = n5) := Lib.hid (by rw [ext_drop, hb1b]; exact hn5)
  have EX7 : Hid (ak = false → (⟨#[]⟩ : ByteArray) = n5) := Lib.hid (fun e => by
    rw [← hn5, List.drop_eq_nil_of_le (by have := of_decide_eq_false (e ▸ hak : decide (k3 < bk.length) = false); omega)]; rfl)
  have DA : Hid (decide ((k3 : Int) < (b1.size : Int)) = ak) := Lib.hid (by rw [← hak, hb1l, decide_eq_decide]; omega)
  have HGM : Hid (g = true → m < h0.size) := Lib.hid (fun e => by rw [hh0l]; exact of_decide_eq_true (e ▸ hg : decide (m < a.length) = true))
  have HAM : Hid (ak = true → k3 < b1.size) := Lib.hid (fun e => by rw [hb1l]; exact of_decide_eq_true (e ▸ hak : decide (k3 < bk.length) = true))
  have C8 : Hid (∀ W : World, Calls Tryd.prog 59 #[.string n4] W fun e w' => e = .returned (.tuple #[.string (strL (nx.getD [])), .bool nx.isSome]) ∧ Below W.heap.size W w') := Lib.hid (fun W => rnorm_at n4 nx (by rw [← hn4, btL_strL (hbkb.take k3)]; exact hnx) (by rw [← hn4, strL_size, List.length_take]; omega) W)
  have C9 : Hid (∀ W : World, Calls Tryd.prog 59 #[.string n5] W fun e w' => e = .returned (.tuple #[.string (strL (ny.getD [])), .bool ny.isSome]) ∧ Below W.heap.size W w') := Lib.hid (fun W => rnorm_at n5 ny (by rw [← hn5, btL_strL (hbkb.drop (k3 + 1))]; exact hny) (by rw [← hn5, strL_size, List.length_drop]; omega) W)
  have C10 : Hid (∀ x, nx = some x → ∀ W : World, Calls Tryd.prog 31 #[.string (strL x)] W fun e w' => e = .returned (.string (strL (cleanI x))) ∧ Below W.heap.size W w') := Lib.hid (fun x hx W => by
    rw [← hnx] at hx
    have hp := plain_nrm (hbkb.take k3) hx
    have hxb := (again_of (hbkb.take k3) hx).byts
    have hxl := hp.len
    exact rclean_at _ _ (by rw [btL_strL hxb]) (by rw [strL_size]; rw [List.length_take] at hxl; omega) W)
  have zh : h0.size ≤ 256 := by omega
  have hmz : m ≤ h0.size := by omega
  have HHN := Lib.hid hhn
  have HPV := Lib.hid hpv
  clear hqb hql us0 hrl hbr hk ha hal hab hm hml hp hy hg hh0 hh0l hh0b hhn hhnb hhnl hb0 hb0b hk2 hbk hbk2 hbkb hbkl hb1 hb1b hb1l hk3 hn4 hn5 hak hnx hny hpv
  go_enter Tryd.func23, Tryd.ntmps23
  go_upto_block 0 with (fail)
  refine code_forget (fun w1 => Hid (Box w1 w.heap.size zU 41) ∧ Hid (Box w1 (w.heap.size + 1) zU 41) ∧ Hid (Below w.heap.size w w1)) ⟨Lib.hid ((Box.new w _ _).alloc _), Lib.hid (box_new_at (by simp)), Lib.hid (((Below.refl _ _).alloc (Nat.le_refl _) _).alloc (by simp) _)⟩ ?_
  rintro w1 ⟨X1, Y1, B1⟩
  go_cut [5] (fun v wx => v = .string rs ∧ Hid (Box wx w.heap.size zU 41) ∧ Hid (Box wx (w.heap.size + 1) #[.string sc, .string ⟨#[]⟩, .int .i64 us, .string ⟨#[]⟩, .string ⟨#[]⟩, .bool false] 41) ∧ Hid (Below w.heap.size w wx))
  case first =>
    obtain ⟨t7, ht7⟩ : ∃ t, lowB (s.extract 0 7) = t := ⟨_, rfl⟩
    obtain ⟨t8, ht8⟩ : ∃ t, lowB (s.extract 0 8) = t := ⟨_, rfl⟩
    have C7 := Lib.hid (C.out 7)
    have C8 := Lib.hid (C.out 8)
    rw [ht7] at C7
    rw [ht8] at C8
    cases sec with
    | false =>
      obtain ⟨g1, g2, g3⟩ : ((btL s).take 7).map lwI = [104, 116, 116, 112, 58, 47, 47] ∧ q = (btL s).drop 7 ∧ 7 ≤ s.size := by
        rcases H7.out with ⟨_, h1, h2, h3⟩ | ⟨h, _⟩
        · exact ⟨h1, h2, by rwa [btL_length] at h3⟩
        · cases h
      have q7 : (t7.toList == [104, 116, 116, 112, 58, 47, 47]) = true := by rw [← ht7, low_take, g1]; rfl
      have q7' : t7.toList = [104, 116, 116, 112, 58, 47, 47] := beq_iff_eq.1 q7
      have e7 : decide ((7 : Int) ≤ (s.size : Int)) = true := decide_eq_true (by omega)
      have e7' : (7 : Int) ≤ (s.size : Int) := by omega
      have HX : Hid (s.extract 7 s.size = rs) := Lib.hid (by rw [ext_drop, ← g2]; exact HRS.out)
      clear ht7 ht8 g1 g2 C C8
      have HSC : Hid ((⟨#[104, 116, 116, 112]⟩ : ByteArray) = sc) := Lib.hid HSB.out
      have HU : Hid (us = 80) := Lib.hid HUS.out.symm
      go_wp2_with fail
      refine (C7.out w1).mono ?_
      rintro e w2 ⟨rfl, hb2⟩
      have X2 := Lib.hid (X1.out.later hb2)
      have Y2 := Lib.hid (Y1.out.later hb2)
      have B2 := Lib.hid (B1.out.trans (hb2.mono B1.out.size))
      clear hb2 X1 B1 Y1
      obtain ⟨⟨c0, c1, c2, c3, c4, c5⟩, ⟨f0, f1, f2, f3, f4, f5⟩, lt⟩ := box6 Y2.out
      go_wp2
      go_region
      go_wp2
      go_meet
      refine ⟨by rw [HX.out], Lib.hid ?_, Lib.hid ?_, Lib.hid ?_⟩
      · exact ((X2.out.other (a := ⟨w.heap.size + 1, 0, none⟩) (by show w.heap.size ≠ w.heap.size + 1; omega) _).other (a := ⟨w.heap.size + 1, 2, none⟩) (by show w.heap.size ≠ w.heap.size + 1; omega) _)
      · have := ((Y2.out.set 0 (.string sc)).set 2 (.int .i64 us)).drew
        rw [← HSC.out, HU.out] at this ⊢
        simpa [zU] using this
      · exact ((B2.out.setCell (p := ⟨w.heap.size + 1, 0, none⟩) (by simp) _).setCell (p := ⟨w.heap.size + 1, 2, none⟩) (by simp) _).drew
    | true =>
      obtain ⟨g0, g1, g2, g3⟩ : ((btL s).take 7).map lwI ≠ [104, 116, 116, 112, 58, 47, 47] ∧ ((btL s).take 8).map lwI = [104, 116, 116, 112, 115, 58, 47, 47] ∧ q = (btL s).drop 8 ∧ 8 ≤ s.size := by
        rcases H7.out with ⟨h, _⟩ | ⟨_, h0, h1, h2, h3⟩
        · cases h
        · exact ⟨h0, h1, h2, by rwa [btL_length] at h3⟩
      have q7 : (t7.toList == [104, 116, 116, 112, 58, 47, 47]) = false := by rw [← ht7, low_take]; exact beq_eq_false_iff_ne.2 g0
      have q8 : (t8.toList == [104, 116, 116, 112, 115, 58, 47, 47]) = true := by rw [← ht8, low_take, g1]; rfl
      have q8' : t8.toList = [104, 116, 116, 112, 115, 58, 47, 47] := beq_iff_eq.1 q8
      have e7 : decide ((7 : Int) ≤ (s.size : Int)) = true := decide_eq_true (by omega)
      have e8 : decide ((8 : Int) ≤ (s.size : Int)) = true := decide_eq_true (by omega)
      have e8' : (8 : Int) ≤ (s.size : Int) := by omega
      have HX : Hid (s.extract 8 s.size = rs) := Lib.hid (by rw [ext_drop, ← g2]; exact HRS.out)
      clear ht7 ht8 g0 g1 g2 C
      have HSC : Hid ((⟨#[104, 116, 116, 112, 115]⟩ : ByteArray) = sc) := Lib.hid HSB.out
      have HU : Hid (us = 443) := Lib.hid HUS.out.symm
      go_wp2_with fail
      refine (C7.out w1).mono ?_
      rintro e w2 ⟨rfl, hb2⟩
      have X2 := Lib.hid (X1.out.later hb2)
      have Y2 := Lib.hid (Y1.out.later hb2)
      have B2 := Lib.hid (B1.out.trans (hb2.mono B1.out.size))
      clear hb2 X1 B1 Y1
      go_wp2_with fail
      refine (C8.out w2).mono ?_
      rintro e w3 ⟨rfl, hb3⟩
      have X3 := Lib.hid (X2.out.later hb3)
      have Y3 := Lib.hid (Y2.out.later hb3)
      have B3 := Lib.hid (B2.out.trans (hb3.mono B2.out.size))
      clear hb3 X2 B2 Y2
      obtain ⟨⟨c0, c1, c2, c3, c4, c5⟩, ⟨f0, f1, f2, f3, f4, f5⟩, lt⟩ := box6 Y3.out
      go_wp2
      go_region
      go_wp2
      go_meet
      refine ⟨by rw [HX.out], Lib.hid ?_, Lib.hid ?_, Lib.hid ?_⟩
      · exact ((X3.out.other (a := ⟨w.heap.size + 1, 0, none⟩) (by show w.heap.size ≠ w.heap.size + 1; omega) _).other (a := ⟨w.heap.size + 1, 2, none⟩) (by show w.heap.size ≠ w.heap.size + 1; omega) _)
      · have := ((Y3.out.set 0 (.string sc)).set 2 (.int .i64 us)).drew
        rw [← HSC.out, HU.out] at this ⊢
        simpa [zU] using this
      · exact ((B3.out.setCell (p := ⟨w.heap.size + 1, 0, none⟩) (by simp) _).setCell (p := ⟨w.heap.size + 1, 2, none⟩) (by simp) _).drew
  case rest =>
    obtain ⟨rfl, X2, Y2, B2⟩ := hcut
    clear X1 Y1 B1 H7 C
    go_wp2_with fail
    refine (C1.out _).mono ?_
    rintro e w3 ⟨rfl, hw⟩
    subst w3
    have k0 : (0 : Int) ≤ (k : Int) := by omega
    have k1 : (k : Int) ≤ (rs.size : Int) := by omega
    go_wp2_with fail
    go_region_with (go_at_call 55; refine (C2.out _).mono ?_; rintro e w3 ⟨rfl, hb3⟩)
    have X3 := Lib.hid (X2.out.drew.later hb3)
    have Y3 := Lib.hid (Y2.out.drew.later hb3)
    have B3 := Lib.hid (B2.out.drew.trans (hb3.mono B2.out.size))
    clear hb3 X2 Y2 B2
    rw [EX1.out]
    go_wp2_with fail
    refine (C3.out _).mono ?_
    rintro e w4 ⟨rfl, hw⟩
    subst w4
    go_upto_if 65 with fail
    go_cut [7] (fun v wx => v = .string hn ∧ Hid (Box wx w.heap.size zU 41) ∧ Hid (Box wx (w.heap.size + 1) #[.string sc, .string ⟨#[]⟩, .int .i64 pv, .string ⟨#[]⟩, .string ⟨#[]⟩, .bool false] 41) ∧ Hid (Below w.heap.size w wx))
    case first =>
      have dg := DG.out
      cases g with
      | false =>
        have HP2 : Hid (us = pv) := Lib.hid HPV.out
        have EH := Lib.hid (EX3.out rfl)
        have hmn : ¬ m < h0.size := by have := of_decide_eq_false dg; omega
        have dgn : decide (m < h0.size) = false := decide_eq_false hmn
        go_wp2
        go_meet
        rw [← HP2.out]
        exact ⟨by rw [EH.out], X3, Y3, B3⟩
      | true =>
        have HP2 : Hid (p = pv) := Lib.hid HPV.out
        have C4' := Lib.hid (C4.out rfl)
        have hm2 := HGM.out rfl
        have dgn : decide (m < h0.size) = true := decide_eq_true hm2
        clear HPV HGM C4 DG EX3 HR HPQ HAU
        have m1 : (m : Int) + 1 ≤ (h0.size : Int) := by omega
        have m0 : (m : Int) ≤ (h0.size : Int) := by omega
        obtain ⟨⟨c0, c1, c2, c3, c4, c5⟩, ⟨f0, f1, f2, f3, f4, f5⟩, lt⟩ := box6 Y3.out
        go_wp2_with fail
        refine (C4'.out _).mono ?_
        rintro e w4 ⟨rfl, hw⟩
        subst w4
        go_wp2
        go_meet
        refine ⟨by rw [EX2.out], Lib.hid (X3.out.other (a := ⟨w.heap.size + 1, 2, none⟩) (by show w.heap.size ≠ w.heap.size + 1; omega) _), Lib.hid ?_, Lib.hid (B3.out.setCell (p := ⟨w.heap.size + 1, 2, none⟩) (by simp) _)⟩
        have := Y3.out.set 2 (.int .i64 p)
        rw [← HP2.out]
        simpa using this
    case rest =>
      obtain ⟨rfl, X4, Y4, B4⟩ := hcut
      clear X3 Y3 B3 C1 C2 C3 C4 DG HGM EX1 EX2 EX3
      have k2v := Y4.out.cell 2
      simp only [List.getElem?_toArray, List.getElem?_cons_succ, List.getElem?_cons_zero] at k2v
      by_cases hp0 : pv = 0
      · have dp : (pv == 0) = true := beq_iff_eq.2 hp0
        have HE : Hid (PR.host = r) := Lib.hid (by have := HR.out; rw [HAU.out, if_pos hp0] at this; exact this)
        clear hp0
        obtain ⟨⟨c0, c1, c2, c3, c4, c5⟩, ⟨f0, f1, f2, f3, f4, f5⟩, lt⟩ := box6 X4.out
        go_wp2
        exact bodyPost_ret (v := .tuple #[.agg #[.string ⟨#[]⟩, .string ⟨#[]⟩, .int .i64 0, .string ⟨#[]⟩, .string ⟨#[]⟩, .bool false], .int .i64 11]) (by simp [results, Tryd.results23, go_sem, c0, c1, c2, c3, c4, c5, f0, f1, f2, f3, f4, f5, lt]) rfl (by rw [← HE.out]; exact ⟨rfl, ((((((B4.out).setCell (p := ⟨w.heap.size, 0, none⟩) (Nat.le_refl _) _).setCell (p := ⟨w.heap.size, 1, none⟩) (Nat.le_refl _) _).setCell (p := ⟨w.heap.size, 2, none⟩) (Nat.le_refl _) _).setCell (p := ⟨w.heap.size, 3, none⟩) (Nat.le_refl _) _).setCell (p := ⟨w.heap.size, 4, none⟩) (Nat.le_refl _) _).setCell (p := ⟨w.heap.size, 5, none⟩) (Nat.le_refl _) _⟩)
      · have dp : (pv == 0) = false := beq_eq_false_iff_ne.2 hp0
        have HA2 : Hid (authI us (q.take k) = if y then some ((a.take m).map lwI, pv) else none) := Lib.hid (by rw [HAU.out, if_neg hp0])
        clear HAU hp0
        go_wp2_with fail
        refine (C5.out _).mono ?_
        rintro e w5 ⟨rfl, hb5⟩
        have X5 := Lib.hid (X4.out.later hb5)
        have Y5 := Lib.hid (Y4.out.later hb5)
        have B5 := Lib.hid (B4.out.trans (hb5.mono B4.out.size))
        clear hb5 X4 Y4 B4
        clear k2v
        cases y with
        | false =>
          have HE : Hid (PR.host = r) := Lib.hid (by have := HR.out; rw [HA2.out] at this; exact this)
          obtain ⟨⟨c0, c1, c2, c3, c4, c5⟩, ⟨f0, f1, f2, f3, f4, f5⟩, lt⟩ := box6 X5.out
          go_wp2
          exact bodyPost_ret (v := .tuple #[.agg #[.string ⟨#[]⟩, .string ⟨#[]⟩, .int .i64 0, .string ⟨#[]⟩, .string ⟨#[]⟩, .bool false], .int .i64 11]) (by simp [results, Tryd.results23, go_sem, c0, c1, c2, c3, c4, c5, f0, f1, f2, f3, f4, f5, lt]) rfl (by rw [← HE.out]; exact ⟨rfl, ((((((B5.out).setCell (p := ⟨w.heap.size, 0, none⟩) (Nat.le_refl _) _).setCell (p := ⟨w.heap.size, 1, none⟩) (Nat.le_refl _) _).setCell (p := ⟨w.heap.size, 2, none⟩) (Nat.le_refl _) _).setCell (p := ⟨w.heap.size, 3, none⟩) (Nat.le_refl _) _).setCell (p := ⟨w.heap.size, 4, none⟩) (Nat.le_refl _) _).setCell (p := ⟨w.heap.size, 5, none⟩) (Nat.le_refl _) _⟩)
        | true =>
          have HR3 : Hid ((match pqI bk with | none => PR.form | some (x, y, k) => PR.ok sec ((a.take m).map lwI) pv x y k) = r) := Lib.hid (by have := HR.out; rw [HA2.out] at this; exact this)
          clear HA2 HR
          have k20 : (0 : Int) ≤ (k2 : Int) := by omega
          have k21 : (k2 : Int) ≤ (b0.size : Int) := by omega
          have k30 : (0 : Int) ≤ (k3 : Int) := by omega
          have k31 : (k3 : Int) ≤ (b1.size : Int) := by omega
          obtain ⟨⟨c0, c1, c2, c3, c4, c5⟩, ⟨f0, f1, f2, f3, f4, f5⟩, lt⟩ := box6 Y5.out
          go_wp2_with fail
          refine calls_forget (fun w6 => Hid (Box w6 w.heap.size zU 41) ∧ Hid (Box w6 (w.heap.size + 1) #[.string sc, .string hn, .int .i64 pv, .string ⟨#[]⟩, .string ⟨#[]⟩, .bool false] 41) ∧ Hid (Below w.heap.size w w6)) ⟨Lib.hid (X5.out.other (a := ⟨w.heap.size + 1, 1, none⟩) (by show w.heap.size ≠ w.heap.size + 1; omega) _), Lib.hid (by have := Y5.out.set 1 (.string hn); simpa using this), Lib.hid (B5.out.setCell (p := ⟨w.heap.size + 1, 1, none⟩) (by simp) _)⟩ ?_
          rintro w6 ⟨X6, Y6, B6⟩
          clear X5 Y5 B5 c0 c1 c2 c3 c4 c5 f0 f1 f2 f3 f4 f5 lt
          refine (C6.out _).mono ?_
          rintro e w7 ⟨rfl, hw⟩
          subst w7
          go_wp2_with fail
          rw [EX4.out]
          refine (C7.out _).mono ?_
          rintro e w7 ⟨rfl, hw⟩
          subst w7
          go_upto_if 98 with fail
          rw [EX5.out]
          go_cut [12] (fun v wx => v = .string n5 ∧ Hid (Box wx w.heap.size zU 41) ∧ Hid (Box wx (w.heap.size + 1) #[.string sc, .string hn, .int .i64 pv, .string ⟨#[]⟩, .string ⟨#[]⟩, .bool ak] 41) ∧ Hid (Below w.heap.size w wx))
          case first =>
            have da := DA.out
            cases ak with
            | false =>
              have EH := Lib.hid (EX7.out rfl)
              have hmn : ¬ k3 < b1.size := by have := of_decide_eq_false da; omega
              have dgn : decide (k3 < b1.size) = false := decide_eq_false hmn
              go_wp2
              go_meet
              exact ⟨by rw [EH.out], X6, Y6, B6⟩
            | true =>
              have hm2 := HAM.out rfl
              have dgn : decide (k3 < b1.size) = true := decide_eq_true hm2
              have m1 : (k3 : Int) + 1 ≤ (b1.size : Int) := by omega
              have m0 : (0 : Int) ≤ (k3 : Int) + 1 := by omega
              have ws : IntKind.i64.wrap ((k3 : Int) + 1) = (k3 : Int) + 1 := IntWalk.i64_in _ (by omega)
              have wn : ((k3 : Int) + 1).toNat = k3 + 1 := by omega
              obtain ⟨⟨c0, c1, c2, c3, c4, c5⟩, ⟨f0, f1, f2, f3, f4, f5⟩, lt⟩ := box6 Y6.out
              go_wp2
              go_region
              go_wp2
              go_meet
              refine ⟨by rw [EX6.out], Lib.hid (X6.out.other (a := ⟨w.heap.size + 1, 5, none⟩) (by show w.heap.size ≠ w.heap.size + 1; omega) _).drew, Lib.hid ?_, Lib.hid (B6.out.setCell (p := ⟨w.heap.size + 1, 5, none⟩) (by simp) _).drew⟩
              have := (Y6.out.set 5 (.bool true)).drew
              simpa using this
          case rest =>
            obtain ⟨rfl, X7, Y7, B7⟩ := hcut
            clear X6 Y6 B6 C5 C6 C7 EX4 EX5 EX6 EX7 DA HAM
            go_wp2_with fail
            refine (C8.out _).mono ?_
            rintro e w8 ⟨rfl, hb8⟩
            have X8 := Lib.hid (X7.out.later hb8)
            have Y8 := Lib.hid (Y7.out.later hb8)
            have B8 := Lib.hid (B7.out.trans (hb8.mono B7.out.size))
            clear hb8 X7 Y7 B7
            go_wp2_with fail
            refine (C9.out _).mono ?_
            rintro e w9 ⟨rfl, hb9⟩
            have X9 := Lib.hid (X8.out.later hb9)
            have Y9 := Lib.hid (Y8.out.later hb9)
            have B9 := Lib.hid (B8.out.trans (hb9.mono B8.out.size))
            clear hb9 X8 Y8 B8
            cases nx with
            | none =>
              have HE : Hid (PR.form = r) := Lib.hid (by have := HR3.out; rw [HPQ.out] at this; exact this)
              obtain ⟨⟨c0, c1, c2, c3, c4, c5⟩, ⟨f0, f1, f2, f3, f4, f5⟩, lt⟩ := box6 X9.out
              go_wp2
              exact bodyPost_ret (v := .tuple #[.agg #[.string ⟨#[]⟩, .string ⟨#[]⟩, .int .i64 0, .string ⟨#[]⟩, .string ⟨#[]⟩, .bool false], .int .i64 2]) (by simp [results, Tryd.results23, go_sem, c0, c1, c2, c3, c4, c5, f0, f1, f2, f3, f4, f5, lt]) rfl (by rw [← HE.out]; exact ⟨rfl, ((((((B9.out).setCell (p := ⟨w.heap.size, 0, none⟩) (Nat.le_refl _) _).setCell (p := ⟨w.heap.size, 1, none⟩) (Nat.le_refl _) _).setCell (p := ⟨w.heap.size, 2, none⟩) (Nat.le_refl _) _).setCell (p := ⟨w.heap.size, 3, none⟩) (Nat.le_refl _) _).setCell (p := ⟨w.heap.size, 4, none⟩) (Nat.le_refl _) _).setCell (p := ⟨w.heap.size, 5, none⟩) (Nat.le_refl _) _⟩)
            | some x =>
              cases ny with
              | none =>
                have HE : Hid (PR.form = r) := Lib.hid (by have := HR3.out; rw [HPQ.out] at this; exact this)
                obtain ⟨⟨c0, c1, c2, c3, c4, c5⟩, ⟨f0, f1, f2, f3, f4, f5⟩, lt⟩ := box6 X9.out
                go_wp2
                exact bodyPost_ret (v := .tuple #[.agg #[.string ⟨#[]⟩, .string ⟨#[]⟩, .int .i64 0, .string ⟨#[]⟩, .string ⟨#[]⟩, .bool false], .int .i64 2]) (by simp [results, Tryd.results23, go_sem, c0, c1, c2, c3, c4, c5, f0, f1, f2, f3, f4, f5, lt]) rfl (by rw [← HE.out]; exact ⟨rfl, ((((((B9.out).setCell (p := ⟨w.heap.size, 0, none⟩) (Nat.le_refl _) _).setCell (p := ⟨w.heap.size, 1, none⟩) (Nat.le_refl _) _).setCell (p := ⟨w.heap.size, 2, none⟩) (Nat.le_refl _) _).setCell (p := ⟨w.heap.size, 3, none⟩) (Nat.le_refl _) _).setCell (p := ⟨w.heap.size, 4, none⟩) (Nat.le_refl _) _).setCell (p := ⟨w.heap.size, 5, none⟩) (Nat.le_refl _) _⟩)
              | some y =>
                have HE : Hid (PR.ok sec ((a.take m).map lwI) pv (cleanI x) y ak = r) := Lib.hid (by have := HR3.out; rw [HPQ.out] at this; exact this)
                have C11 := Lib.hid (C10.out x rfl)
                simp only [Option.getD_some, Option.isSome_some]
                go_wp2_with fail
                refine (C11.out _).mono ?_
                rintro e w10 ⟨rfl, hb10⟩
                have X10 := Lib.hid (X9.out.later hb10)
                have Y10 := Lib.hid (Y9.out.later hb10)
                have B10 := Lib.hid (B9.out.trans (hb10.mono B9.out.size))
                clear hb10 X9 Y9 B9
                obtain ⟨⟨e0, e1, e2, e3, e4, e5⟩, ⟨g0, g1, g2, g3, g4, g5⟩, lt2⟩ := box6 Y10.out
                obtain ⟨⟨c0, c1, c2, c3, c4, c5⟩, ⟨f0, f1, f2, f3, f4, f5⟩, lt⟩ := box6 X10.out
                go_wp2
                exact bodyPost_ret (v := .tuple #[.agg #[.string sc, .string hn, .int .i64 pv, .string (strL (cleanI x)), .string (strL y), .bool ak], .int .i64 0]) (by simp [results, Tryd.results23, go_sem, c0, c1, c2, c3, c4, c5, f0, f1, f2, f3, f4, f5, lt, lt2]) rfl (by rw [← HE.out]; exact ⟨by rw [← HSB.out, ← HHN.out]; rfl, ((((((((B10.out.setCell (p := ⟨w.heap.size + 1, 3, none⟩) (by simp) _).setCell (p := ⟨w.heap.size + 1, 4, none⟩) (by simp) _)).setCell (p := ⟨w.heap.size, 0, none⟩) (Nat.le_refl _) _).setCell (p := ⟨w.heap.size, 1, none⟩) (Nat.le_refl _) _).setCell (p := ⟨w.heap.size, 2, none⟩) (Nat.le_refl _) _).setCell (p := ⟨w.heap.size, 3, none⟩) (Nat.le_refl _) _).setCell (p := ⟨w.heap.size, 4, none⟩) (Nat.le_refl _) _).setCell (p := ⟨w.heap.size, 5, none⟩) (Nat.le_refl _) _⟩)
end Go.Proofs.YtcdodpkfhkfnkaaDoor
