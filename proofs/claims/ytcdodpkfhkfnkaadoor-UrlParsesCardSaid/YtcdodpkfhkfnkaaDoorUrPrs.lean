/- A text in its parts: the program's. -/
import Derived.Test.YtcdodpkfhkfnkaaDoorUrNam
namespace Go.Proofs.YtcdodpkfhkfnkaaDoor
open Go.RowKit
set_option linter.unusedVariables false
set_option linter.unusedSimpArgs false
set_option maxRecDepth 10000

def zU : Array Value := #[.string ⟨#[]⟩, .string ⟨#[]⟩, .int .i64 0, .string ⟨#[]⟩, .string ⟨#[]⟩, .bool false]
def prU : PR → Array Value
  | .ok sec h p x y k => #[.string (strL (schI sec)), .string (strL h), .int .i64 p, .string (strL x), .string (strL y), .bool k]
  | _ => #[.string ⟨#[]⟩, .string ⟨#[]⟩, .int .i64 0, .string ⟨#[]⟩, .string ⟨#[]⟩, .bool false]
def prE : PR → Int
  | .over => 9
  | .form => 2
  | .host => 11
  | .ok .. => 0
def prV (r : PR) : Value := .tuple #[.agg (prU r), .int .i64 (prE r)]
theorem sch_byts (sec : Bool) : Byts (schI sec) := by
  intro c hc
  cases sec
  · have : c = 104 ∨ c = 116 ∨ c = 112 := by simpa [schI] using hc
    omega
  · have : c = 104 ∨ c = 116 ∨ c = 112 ∨ c = 115 := by simpa [schI] using hc
    omega
theorem usB_sch (sec : Bool) : usB (strL (schI sec)) = usI sec := by
  unfold usB isSec usI
  rw [tl_eq (sch_byts sec)]
  cases sec <;> rfl
theorem box6 {w : World} {b : Nat} {a0 a1 a2 a3 a4 a5 : Value} {t : TypeId} (h : Box w b #[a0, a1, a2, a3, a4, a5] t) :
    (w.cell? ⟨b, 0, none⟩ = some a0 ∧ w.cell? ⟨b, 1, none⟩ = some a1 ∧ w.cell? ⟨b, 2, none⟩ = some a2 ∧ w.cell? ⟨b, 3, none⟩ = some a3 ∧ w.cell? ⟨b, 4, none⟩ = some a4 ∧ w.cell? ⟨b, 5, none⟩ = some a5) ∧
    (w.frozen? ⟨b, 0, none⟩ = false ∧ w.frozen? ⟨b, 1, none⟩ = false ∧ w.frozen? ⟨b, 2, none⟩ = false ∧ w.frozen? ⟨b, 3, none⟩ = false ∧ w.frozen? ⟨b, 4, none⟩ = false ∧ w.frozen? ⟨b, 5, none⟩ = false) ∧ b < w.heap.size :=
  ⟨⟨h.cell 0, h.cell 1, h.cell 2, h.cell 3, h.cell 4, h.cell 5⟩, ⟨h.free 0, h.free 1, h.free 2, h.free 3, h.free 4, h.free 5⟩, h.lt⟩
set_option maxHeartbeats 2000000 in
theorem parse_over (s : ByteArray) (h : 256 < s.size) (w : World) :
    Calls Tryd.prog 22 #[.string s] w fun e w' => e = .returned (prV .over) ∧ Below w.heap.size w w' := by
  have d : decide ((256 : Int) < (s.size : Int)) = true := decide_eq_true (by omega)
  go_enter Tryd.func22, Tryd.ntmps22
  go_wp2
  exact bodyPost_ret (v := .tuple #[.agg #[.string ⟨#[]⟩, .string ⟨#[]⟩, .int .i64 0, .string ⟨#[]⟩, .string ⟨#[]⟩, .bool false], .int .i64 9]) (by simp [results, Tryd.results22, go_sem]) rfl ⟨rfl, (Below.refl _ _).alloc (Nat.le_refl _) _⟩
set_option maxHeartbeats 2000000 in
theorem parse_at (s : ByteArray) (r : PR) (hr : parI (btL s) = r) (hs : s.size ≤ 256) (w : World) (hT : TabsM w) :
    Calls Tryd.prog 22 #[.string s] w fun e w' => e = .returned (prV r) ∧ Below w.heap.size w w' := by
  have HT := Lib.hid hT
  have d : decide ((256 : Int) < (s.size : Int)) = false := decide_eq_false (by omega)
  unfold parI at hr
  rw [if_neg (by rw [btL_length]; omega)] at hr
  have HR := Lib.hid hr
  clear hT hr
  go_enter Tryd.func22, Tryd.ntmps22
  go_wp2_with fail
  refine calls_forget (fun w1 => Hid (Box w1 w.heap.size zU 41) ∧ Hid (Below w.heap.size w w1) ∧ Hid (TabsM w1)) ⟨Lib.hid (Box.new w _ _), Lib.hid ((Below.refl _ _).alloc (Nat.le_refl _) _), Lib.hid (HT.out.later ((Below.refl _ _).alloc (Nat.le_refl _) _))⟩ ?_
  rintro w1 ⟨X1, B1, T1⟩
  refine (cutScheme_at s (by omega) w1 T1.out).mono ?_
  rintro e w2 ⟨sc, rest, b, rfl, z2, hb2, hn, hy⟩
  have X2 := Lib.hid (X1.out.later hb2)
  have B2 := Lib.hid (B1.out.trans (hb2.mono B1.out.size))
  have T2 := Lib.hid (T1.out.later hb2)
  have HY := Lib.hid hy
  clear hb2 hy
  cases hsc : schA (btL s) with
  | none =>
    obtain rfl : b = false := hn hsc
    have HE : Hid (PR.form = r) := Lib.hid (by rw [← HR.out, hsc])
    clear hn hsc X1 B1 T1
    obtain ⟨⟨c0, c1, c2, c3, c4, c5⟩, ⟨f0, f1, f2, f3, f4, f5⟩, lt⟩ := box6 X2.out
    go_wp2
    exact bodyPost_ret (v := .tuple #[.agg #[.string ⟨#[]⟩, .string ⟨#[]⟩, .int .i64 0, .string ⟨#[]⟩, .string ⟨#[]⟩, .bool false], .int .i64 2]) (by simp [results, Tryd.results22, go_sem, c0, c1, c2, c3, c4, c5, f0, f1, f2, f3, f4, f5, lt]) rfl (by rw [← HE.out]; exact ⟨rfl, ((((((B2.out).setCell (p := ⟨w.heap.size, 0, none⟩) (Nat.le_refl _) _).setCell (p := ⟨w.heap.size, 1, none⟩) (Nat.le_refl _) _).setCell (p := ⟨w.heap.size, 2, none⟩) (Nat.le_refl _) _).setCell (p := ⟨w.heap.size, 3, none⟩) (Nat.le_refl _) _).setCell (p := ⟨w.heap.size, 4, none⟩) (Nat.le_refl _) _).setCell (p := ⟨w.heap.size, 5, none⟩) (Nat.le_refl _) _⟩)
  | some sq =>
    obtain ⟨sec, q⟩ := sq
    obtain ⟨rfl, rfl, hrq⟩ := HY.out sec q hsc
    have HR2 : Hid ((match authI (usI sec) (q.take (fndI stopsI q)) with | none => PR.host | some (h, p) => match pqI (backI q) with | none => PR.form | some (x, y, k) => PR.ok sec h p x y k) = r) := Lib.hid (by have := HR.out; rw [hsc] at this; exact this)
    have hqb : Byts q := by
      have e1 : btL s = btL s := rfl
      unfold schA at hsc
      split at hsc
      · injection hsc with hsc; injection hsc with _ hsc; rw [← hsc]; exact (btL_byts s).drop 7
      · split at hsc
        · injection hsc with hsc; injection hsc with _ hsc; rw [← hsc]; exact (btL_byts s).drop 8
        · cases hsc
    have hql : q.length ≤ 256 := by rw [hrq, strL_size] at z2; omega
    have HRQ := Lib.hid hrq
    obtain ⟨us, hus⟩ : ∃ v, usI sec = v := ⟨_, rfl⟩
    have HUS : Hid (usB (strL (schI sec)) = us) := Lib.hid ((usB_sch sec).trans hus)
    obtain ⟨scb, hscb⟩ : ∃ v, strL (schI sec) = v := ⟨_, rfl⟩
    rw [hscb] at HUS ⊢
    have HSB := Lib.hid hscb
    rw [hus] at HR2
    obtain ⟨k, hk⟩ : ∃ k, fndI stopsI q = k := ⟨_, rfl⟩
    have HB : Hid (backI q = (q.drop k).take (fndI [35] (q.drop k))) := Lib.hid (by unfold backI; rw [hk])
    rw [hk] at HR2
    obtain ⟨k2, hk2⟩ : ∃ k2, fndI [35] (q.drop k) = k2 := ⟨_, rfl⟩
    obtain ⟨bk, hbk⟩ : ∃ bk, backI q = bk := ⟨_, rfl⟩
    have HB2 : Hid ((q.drop k).take k2 = bk) := Lib.hid (by rw [← hbk, HB.out, hk2])
    rw [hbk] at HR2
    have hbl : bk.length ≤ 256 := by rw [← HB2.out, List.length_take, List.length_drop]; omega
    have hbb : Byts bk := by rw [← HB2.out]; exact (hqb.drop k).take k2
    obtain ⟨k3, hk3⟩ : ∃ k3, fndI [63] bk = k3 := ⟨_, rfl⟩
    -- the calls
    have C1 : Hid (∀ W : World, Calls Tryd.prog 50 #[.string rest, .string ⟨#[47, 63, 35]⟩] W fun e w' => e = .returned (.tuple #[.string (strL (q.take k)), .string (strL (q.drop k))]) ∧ Below W.heap.size W w') := Lib.hid (fun W => by
      have := split3_at rest k (by rw [hrq, btL_strL hqb]; exact hk) (by omega) W
      rw [hrq, btL_strL hqb] at this
      rw [hrq]
      exact this)
    have C2 : Hid (∀ W : World, TabsM W → Calls Tryd.prog 51 #[.string (strL (q.take k)), .int .i64 us] W fun e w' => e = .returned (.tuple #[.string (strL ((authI us (q.take k)).elim [] Prod.fst)), .int .i64 ((authI us (q.take k)).elim 0 Prod.snd), .bool (authI us (q.take k)).isSome]) ∧ Below W.heap.size W w') := Lib.hid (fun W hW => parseAuth_at _ us _ (by rw [btL_strL (hqb.take k)]) (by rw [strL_size, List.length_take]; omega) W hW)
    have C3 : Hid (∀ W : World, Calls Tryd.prog 50 #[.string (strL (q.drop k)), .string ⟨#[35]⟩] W fun e w' => e = .returned (.tuple #[.string (strL bk), .string (strL ((q.drop k).drop k2))]) ∧ Below W.heap.size W w') := Lib.hid (fun W => by
      have := split1_at (strL (q.drop k)) k2 (by rw [btL_strL (hqb.drop k)]; exact hk2) (by rw [strL_size, List.length_drop]; omega) W
      rwa [btL_strL (hqb.drop k), HB2.out] at this)
    have C4 : Hid (∀ W : World, TabsM W → Calls Tryd.prog 53 #[.string (strL bk), .string ⟨#[63]⟩] W fun e w' => e = .returned (.tuple #[.string (strL (bk.take k3)), .string (strL (bk.drop (k3 + 1))), .bool (decide (k3 < bk.length))]) ∧ Below W.heap.size W w') := Lib.hid (fun W hW => by
      have := cut1_at (strL bk) 63 63 k3 rfl (by rw [btL_strL hbb]; exact hk3) (by rw [strL_size]; omega) W hW
      rwa [btL_strL hbb, strL_size] at this)
    have C5 : Hid (∀ W : World, TabsM W → Calls Tryd.prog 54 #[.string (strL (bk.take k3))] W fun e w' => e = .returned (.tuple #[.string (strL ((nrmI (bk.take k3)).getD [])), .bool (nrmI (bk.take k3)).isSome]) ∧ Below W.heap.size W w') := Lib.hid (fun W hW => norm_at _ _ (by rw [btL_strL (hbb.take k3)]) (by rw [strL_size, List.length_take]; omega) W hW.1)
    have C6 : Hid (∀ W : World, TabsM W → Calls Tryd.prog 54 #[.string (strL (bk.drop (k3 + 1)))] W fun e w' => e = .returned (.tuple #[.string (strL ((nrmI (bk.drop (k3 + 1))).getD [])), .bool (nrmI (bk.drop (k3 + 1))).isSome]) ∧ Below W.heap.size W w') := Lib.hid (fun W hW => norm_at _ _ (by rw [btL_strL (hbb.drop (k3 + 1))]) (by rw [strL_size, List.length_drop]; omega) W hW.1)
    have C7 : Hid (∀ x, nrmI (bk.take k3) = some x → ∀ W : World, TabsM W → Calls Tryd.prog 30 #[.string (strL x)] W fun e w' => e = .returned (.string (strL (cleanI x))) ∧ Below W.heap.size W w') := Lib.hid (fun x hx W hW => by
      have hp := plain_nrm (hbb.take k3) hx
      have hxb := (again_of (hbb.take k3) hx).byts
      have hxl := hp.len
      exact clean_at _ _ (by rw [btL_strL hxb]) (by rw [strL_size]; rw [List.length_take] at hxl; omega) W hW)
    have HPQ : Hid (pqI bk = match nrmI (bk.take k3), nrmI (bk.drop (k3 + 1)) with | some x, some y => some (cleanI x, y, decide (k3 < bk.length)) | _, _ => none) := Lib.hid (by unfold pqI; rw [hk3]; rfl)
    obtain ⟨n1, hn1⟩ : ∃ v, strL (q.take k) = v := ⟨_, rfl⟩
    obtain ⟨n2, hn2⟩ : ∃ v, strL (q.drop k) = v := ⟨_, rfl⟩
    obtain ⟨n3, hn3⟩ : ∃ v, strL bk = v := ⟨_, rfl⟩
    obtain ⟨n4, hn4⟩ : ∃ v, strL (bk.take k3) = v := ⟨_, rfl⟩
    obtain ⟨n5, hn5⟩ : ∃ v, strL (bk.drop (k3 + 1)) = v := ⟨_, rfl⟩
    obtain ⟨n6, hn6⟩ : ∃ v, strL ((q.drop k).drop k2) = v := ⟨_, rfl⟩
    obtain ⟨asked, hak⟩ : ∃ v, decide (k3 < bk.length) = v := ⟨_, rfl⟩
    obtain ⟨au, hau⟩ : ∃ v, authI us (q.take k) = v := ⟨_, rfl⟩
    obtain ⟨nx, hnx⟩ : ∃ v, nrmI (bk.take k3) = v := ⟨_, rfl⟩
    obtain ⟨ny, hny⟩ : ∃ v, nrmI (bk.drop (k3 + 1)) = v := ⟨_, rfl⟩
    rw [hn1, hn2] at C1
    rw [hn1, hau] at C2
    rw [hn2, hn3, hn6] at C3
    rw [hn3, hn4, hn5, hak] at C4
    rw [hn4, hnx] at C5
    rw [hn5, hny] at C6
    rw [hnx] at C7
    rw [hnx, hny, hak] at HPQ
    rw [hau] at HR2
    clear HB HB2 hqb hql hbl hbb hk hk2 hbk hk3 hn1 hn2 hn3 hn4 hn5 hn6 hak hau hnx hny hus hscb hrq hn hsc HY HR z2 HRQ
    clear X1 B1 T1
    go_wp2_with fail
    refine (C1.out _).mono ?_
    rintro e w3 ⟨rfl, hb3⟩
    have X3 := Lib.hid (X2.out.later hb3)
    have B3 := Lib.hid (B2.out.trans (hb3.mono B2.out.size))
    have T3 := Lib.hid (T2.out.later hb3)
    clear hb3 X2 B2 T2
    go_wp2_with fail
    refine (usual_at scb us HUS.out _).mono ?_
    rintro e w4 ⟨rfl, hw⟩
    subst w4
    go_wp2_with fail
    refine (C2.out _ T3.out).mono ?_
    rintro e w4 ⟨rfl, hb4⟩
    have X4 := Lib.hid (X3.out.later hb4)
    have B4 := Lib.hid (B3.out.trans (hb4.mono B3.out.size))
    have T4 := Lib.hid (T3.out.later hb4)
    clear hb4 X3 B3 T3
    cases au with
    | none =>
      have HE : Hid (PR.host = r) := Lib.hid HR2.out
      obtain ⟨⟨c0, c1, c2, c3, c4, c5⟩, ⟨f0, f1, f2, f3, f4, f5⟩, lt⟩ := box6 X4.out
      go_wp2
      exact bodyPost_ret (v := .tuple #[.agg #[.string ⟨#[]⟩, .string ⟨#[]⟩, .int .i64 0, .string ⟨#[]⟩, .string ⟨#[]⟩, .bool false], .int .i64 11]) (by simp [results, Tryd.results22, go_sem, c0, c1, c2, c3, c4, c5, f0, f1, f2, f3, f4, f5, lt]) rfl (by rw [← HE.out]; exact ⟨rfl, ((((((B4.out).setCell (p := ⟨w.heap.size, 0, none⟩) (Nat.le_refl _) _).setCell (p := ⟨w.heap.size, 1, none⟩) (Nat.le_refl _) _).setCell (p := ⟨w.heap.size, 2, none⟩) (Nat.le_refl _) _).setCell (p := ⟨w.heap.size, 3, none⟩) (Nat.le_refl _) _).setCell (p := ⟨w.heap.size, 4, none⟩) (Nat.le_refl _) _).setCell (p := ⟨w.heap.size, 5, none⟩) (Nat.le_refl _) _⟩)
    | some hp =>
      obtain ⟨ho, po⟩ := hp
      have HR3 : Hid ((match pqI bk with | none => PR.form | some (x, y, k) => PR.ok sec ho po x y k) = r) := Lib.hid HR2.out
      simp only [Option.elim_some, Option.isSome_some]
      obtain ⟨hob, hhob⟩ : ∃ v, strL ho = v := ⟨_, rfl⟩
      rw [hhob]
      have HOB := Lib.hid hhob
      clear hhob
      go_wp2_with fail
      refine (C3.out _).mono ?_
      rintro e w5 ⟨rfl, hb5⟩
      have X5 := Lib.hid (X4.out.later hb5)
      have B5 := Lib.hid (B4.out.trans (hb5.mono B4.out.size))
      have T5 := Lib.hid (T4.out.later hb5)
      clear hb5 X4 B4 T4
      go_wp2_with fail
      refine (C4.out _ T5.out).mono ?_
      rintro e w6 ⟨rfl, hb6⟩
      have X6 := Lib.hid (X5.out.later hb6)
      have B6 := Lib.hid (B5.out.trans (hb6.mono B5.out.size))
      have T6 := Lib.hid (T5.out.later hb6)
      clear hb6 X5 B5 T5
      go_wp2_with fail
      refine (C5.out _ T6.out).mono ?_
      rintro e w7 ⟨rfl, hb7⟩
      have X7 := Lib.hid (X6.out.later hb7)
      have B7 := Lib.hid (B6.out.trans (hb7.mono B6.out.size))
      have T7 := Lib.hid (T6.out.later hb7)
      clear hb7 X6 B6 T6
      go_wp2_with fail
      refine (C6.out _ T7.out).mono ?_
      rintro e w8 ⟨rfl, hb8⟩
      have X8 := Lib.hid (X7.out.later hb8)
      have B8 := Lib.hid (B7.out.trans (hb8.mono B7.out.size))
      have T8 := Lib.hid (T7.out.later hb8)
      clear hb8 X7 B7 T7
      cases nx with
      | none =>
        have HE : Hid (PR.form = r) := Lib.hid (by have := HR3.out; rw [HPQ.out] at this; exact this)
        obtain ⟨⟨c0, c1, c2, c3, c4, c5⟩, ⟨f0, f1, f2, f3, f4, f5⟩, lt⟩ := box6 X8.out
        go_wp2
        exact bodyPost_ret (v := .tuple #[.agg #[.string ⟨#[]⟩, .string ⟨#[]⟩, .int .i64 0, .string ⟨#[]⟩, .string ⟨#[]⟩, .bool false], .int .i64 2]) (by simp [results, Tryd.results22, go_sem, c0, c1, c2, c3, c4, c5, f0, f1, f2, f3, f4, f5, lt]) rfl (by rw [← HE.out]; exact ⟨rfl, ((((((B8.out).setCell (p := ⟨w.heap.size, 0, none⟩) (Nat.le_refl _) _).setCell (p := ⟨w.heap.size, 1, none⟩) (Nat.le_refl _) _).setCell (p := ⟨w.heap.size, 2, none⟩) (Nat.le_refl _) _).setCell (p := ⟨w.heap.size, 3, none⟩) (Nat.le_refl _) _).setCell (p := ⟨w.heap.size, 4, none⟩) (Nat.le_refl _) _).setCell (p := ⟨w.heap.size, 5, none⟩) (Nat.le_refl _) _⟩)
      | some x =>
        cases ny with
        | none =>
          have HE : Hid (PR.form = r) := Lib.hid (by have := HR3.out; rw [HPQ.out] at this; exact this)
          obtain ⟨⟨c0, c1, c2, c3, c4, c5⟩, ⟨f0, f1, f2, f3, f4, f5⟩, lt⟩ := box6 X8.out
          go_wp2
          exact bodyPost_ret (v := .tuple #[.agg #[.string ⟨#[]⟩, .string ⟨#[]⟩, .int .i64 0, .string ⟨#[]⟩, .string ⟨#[]⟩, .bool false], .int .i64 2]) (by simp [results, Tryd.results22, go_sem, c0, c1, c2, c3, c4, c5, f0, f1, f2, f3, f4, f5, lt]) rfl (by rw [← HE.out]; exact ⟨rfl, ((((((B8.out).setCell (p := ⟨w.heap.size, 0, none⟩) (Nat.le_refl _) _).setCell (p := ⟨w.heap.size, 1, none⟩) (Nat.le_refl _) _).setCell (p := ⟨w.heap.size, 2, none⟩) (Nat.le_refl _) _).setCell (p := ⟨w.heap.size, 3, none⟩) (Nat.le_refl _) _).setCell (p := ⟨w.heap.size, 4, none⟩) (Nat.le_refl _) _).setCell (p := ⟨w.heap.size, 5, none⟩) (Nat.le_refl _) _⟩)
        | some y =>
          have HE : Hid (PR.ok sec ho po (cleanI x) y asked = r) := Lib.hid (by have := HR3.out; rw [HPQ.out] at this; exact this)
          have C8 : Hid (∀ W : World, TabsM W → Calls Tryd.prog 30 #[.string (strL x)] W fun e w' => e = .returned (.string (strL (cleanI x))) ∧ Below W.heap.size W w') := Lib.hid (C7.out x rfl)
          simp only [Option.getD_some, Option.isSome_some]
          go_wp2_with fail
          refine (C8.out _ T8.out).mono ?_
          rintro e w9 ⟨rfl, hb9⟩
          have X9 := Lib.hid (X8.out.later hb9)
          have B9 := Lib.hid (B8.out.trans (hb9.mono B8.out.size))
          have T9 := Lib.hid (T8.out.later hb9)
          clear hb9 X8 B8 T8
          obtain ⟨⟨c0, c1, c2, c3, c4, c5⟩, ⟨f0, f1, f2, f3, f4, f5⟩, lt⟩ := box6 X9.out
          go_wp2
          exact bodyPost_ret (v := .tuple #[.agg #[.string scb, .string hob, .int .i64 po, .string (strL (cleanI x)), .string (strL y), .bool asked], .int .i64 0]) (by simp [results, Tryd.results22, go_sem, c0, c1, c2, c3, c4, c5, f0, f1, f2, f3, f4, f5, lt]) rfl (by rw [← HE.out]; exact ⟨by rw [← HSB.out, ← HOB.out]; rfl, ((((((B9.out).setCell (p := ⟨w.heap.size, 0, none⟩) (Nat.le_refl _) _).setCell (p := ⟨w.heap.size, 1, none⟩) (Nat.le_refl _) _).setCell (p := ⟨w.heap.size, 2, none⟩) (Nat.le_refl _) _).setCell (p := ⟨w.heap.size, 3, none⟩) (Nat.le_refl _) _).setCell (p := ⟨w.heap.size, 4, none⟩) (Nat.le_refl _) _).setCell (p := ⟨w.heap.size, 5, none⟩) (Nat.le_refl _) _⟩)
end Go.Proofs.YtcdodpkfhkfnkaaDoor
