/- A line is applied to a group: the program's. -/
import Derived.Test.YtodlecjbpmggiaaGreatDoorLnGm
import Derived.Test.YtodlecjbpmggiaaGreatDoorLast
import Derived.BigQuiet
import Derived.Deep.QuietTactic
import Derived.Deep.RegionWith
import Derived.Deep.Cut
import Derived.Deep.CutRange
import Derived.Deep.DeepCutAuto
namespace Go.Proofs.YtodlecjbpmggiaaGreatDoor
open Go Go.RowKit
set_option linter.unusedVariables false
set_option linter.unusedSimpArgs false
set_option maxRecDepth 10000

theorem cell_blk {w w' : World} {b : Nat} (h : w'.heap[b]? = w.heap[b]?) (j : Nat) : w'.cell? ⟨b, j, none⟩ = w.cell? ⟨b, j, none⟩ := by
  unfold World.cell?
  rw [h]
theorem frz_blk {w w' : World} {b : Nat} (h : w'.heap[b]? = w.heap[b]?) (j : Nat) : w'.frozen? ⟨b, j, none⟩ = w.frozen? ⟨b, j, none⟩ := by
  unfold World.frozen?
  rw [h]
theorem bs_one (a : Bool) (b : ByteArray) : (#[Value.bool a, .string b] : Array Value).all (·.oneCell') = true := by simp [Value.oneCell']
theorem s_one (b : ByteArray) : (#[Value.string b] : Array Value).all (·.oneCell') = true := by simp [Value.oneCell']
section
variable {P : Program} {ops : Array Oper} {rest : List Oper} {o : Oper} {act : Act} {Q : Exit → Act → World → Prop} {w : World}
theorem step_app1 {T E : TypeId} {size bytes : Nat} {K : Act → World → Prop} {F : Prop} (hT : RowTy P T E size bytes) (hgd : o.guard = none) (s x : Operand) (ho : o.op = .call { callee := .builtin .append, args := #[s, x], argTypes := #[T, T] })
    (B : Nat) (a : Option Addr) (n cap : Nat) (xs : List Value) (hs : act.eval s = .slice a n cap) (hown : Own w B E size a n cap xs) (cs : Array Value) (hx : act.eval x = .slice (some ⟨w.heap.size, 0, none⟩) 1 1) (hcs : cs.size = size) (h1 : cs.all (·.oneCell') = true)
    (h63 : n + 1 ≤ 1000000) (hby : bytes ≤ 100000) (hB : B ≤ w.heap.size) (N : Nat) (hN : n + 1 = N) (zs : List Value) (hz : xs ++ cs.toList = zs)
    (h : ∀ g cap' w', Own w' B E size (some ⟨g, 0, none⟩) N cap' zs → w.grownBy w' (a.map (·.block)) → Below B w w' → (a.map (·.block) = some g ∨ g = w.heap.size + 1) → K (act.put o.dst (.slice (some ⟨g, 0, none⟩) N cap')) w') : if Region.wanted o (yielded ops act.tmps) = true then Oper.wp P o act (w.alloc (.cells cs E)) K Q else F := by
  refine step_appR hT hgd s x ho B a n cap xs hs (hown.alloc _) w.heap.size 0 1 1 cs.toList hx (by decide) (by simpa using hcs) ?_ ?_ h63 hby (by simp; omega) N hN zs hz ?_
  · intro j u hj
    rw [Nat.zero_add]
    have hb := heap_alloc_new w (.cells cs E)
    unfold World.cell?
    rw [hb]
    simpa using hj
  · intro u hu
    exact Array.all_eq_true'.1 h1 u (by simpa using hu)
  · intro g cap' w' h2 h3 h4 h5
    refine h g cap' w' h2 (grown_of_alloc h3) (((Below.refl _ _).alloc hB _).trans h4) ?_
    rcases h5 with h5 | h5
    · exact Or.inl h5
    · exact Or.inr (by simpa using h5)
end
def kUA : List Int := [117, 115, 101, 114, 45, 97, 103, 101, 110, 116]
def kAL : List Int := [97, 108, 108, 111, 119]
def kDI : List Int := [100, 105, 115, 97, 108, 108, 111, 119]
def kCD : List Int := [99, 114, 97, 119, 108, 45, 100, 101, 108, 97, 121]
def delG (g : Gp) : Option Int → Gp
  | some d => ⟨g.ag, g.ru, max g.de d⟩
  | none => g
/-- What a line adds to a group; none: it is no rule. -/
def appG (g : Gp) (k v : List Int) : Option Gp :=
  if k = kAL ∨ k = kDI then some (if v ≠ [] ∧ g.ru.length < 64 then ⟨g.ag, g.ru ++ [(decide (k = kAL), v)], g.de⟩ else g)
  else if k = kCD then some (delG g (delL v)) else none
theorem ln_byt {x s : ByteArray} : (x.toList == s.toList) = true ↔ btL x = btL s := by
  rw [beq_iff_eq, Lib.toList_data, Lib.toList_data]
  constructor
  · intro h
    unfold btL
    rw [h]
  · intro h
    rw [btL_inj h]
theorem ln_lit {x : ByteArray} {l : List UInt8} : (x.toList == l) = true ↔ btL x = l.map fun u => (u.toNat : Int) := by
  rw [beq_iff_eq, Lib.toList_data]
  constructor
  · intro h
    unfold btL
    rw [h]
  · intro h
    have : x = ⟨l.toArray⟩ := btL_inj h
    rw [this]
def AppP (E : TypeId) (B O M cap : Nat) (done : List (Gp × GpA)) (cur : Gp × GpA) (k v : List Int) (w : World) (e : Ending) (w' : World) : Prop := ∃ cur', e = .returned (.bool (appG cur.1 k v).isSome) ∧ GM E B w' O M cap done cur' ∧ cur'.1 = (appG cur.1 k v).getD cur.1 ∧ Below B w w'
set_option maxHeartbeats 4000000 in
theorem apply_at (B O M cap : Nat) (done : List (Gp × GpA)) (cur : Gp × GpA) (k v : List Int) (sk sv : ByteArray) (hk : btL sk = k) (hv : btL sv = v) (zv : sv.size ≤ 1000000000000000) (w : World) (h : GM 58 B w O M cap done cur) :
    Calls Tryz.prog 34 #[.pointer (some ⟨O, done.length * 3, none⟩), .agg #[.string sk, .string sv]] w (AppP 58 B O M cap done cur k v w) := by
  have hBw : B ≤ w.heap.size := by have := h.BO; have := h.oM; have := h.Mw; omega
  have HH := Lib.hid h
  obtain ⟨H, hH⟩ : ∃ H, w.heap.size = H := ⟨_, rfl⟩
  have NH : Hid (some H ≠ cur.2.ra.map (·.block)) := Lib.hid (fun e => by
    have := own_bl h.rows.r (own_block h.rows.r e.symm)
    omega)
  obtain ⟨D, hD⟩ : ∃ D, done.length * 3 = D := ⟨_, rfl⟩
  have HD := Lib.hid hD
  have HK := Lib.hid hk
  have HV := Lib.hid hv
  obtain ⟨b1, hb1⟩ : ∃ b, (sk.toList == [97, 108, 108, 111, 119]) = b := ⟨_, rfl⟩
  obtain ⟨b2, hb2⟩ : ∃ b, (sk.toList == [100, 105, 115, 97, 108, 108, 111, 119]) = b := ⟨_, rfl⟩
  obtain ⟨b3, hb3⟩ : ∃ b, (sk.toList == [99, 114, 97, 119, 108, 45, 100, 101, 108, 97, 121]) = b := ⟨_, rfl⟩
  have E1 : Hid (b1 = decide (k = kAL)) := Lib.hid (by rw [← hb1, Bool.eq_iff_iff, ln_lit, hk, decide_eq_true_eq]; exact Iff.rfl)
  have E2 : Hid (b2 = decide (k = kDI)) := Lib.hid (by rw [← hb2, Bool.eq_iff_iff, ln_lit, hk, decide_eq_true_eq]; exact Iff.rfl)
  have E3 : Hid (b3 = decide (k = kCD)) := Lib.hid (by rw [← hb3, Bool.eq_iff_iff, ln_lit, hk, decide_eq_true_eq]; exact Iff.rfl)
  obtain ⟨em, hem⟩ : ∃ b, sv.toList.isEmpty = b := ⟨_, rfl⟩
  have EM : Hid (em = decide (v = [])) := Lib.hid (by rw [← hem, emp_is hv])
  obtain ⟨od, hod⟩ : ∃ o, delL v = o := ⟨_, rfl⟩
  have DL := Lib.hid (fun W : World => ldelay_at sv zv od (by rw [hv]; exact hod) W trivial)
  have HOD := Lib.hid hod
  rw [hD]
  clear h hD hk hv hod
  go_enter Tryz.func34, Tryz.ntmps34
  go_upto_region 1 with fail
  refine code_forget (fun wx => Hid (Box wx H #[.string sk, .string sv] 35) ∧ Hid (GM 58 B wx O M cap done cur) ∧ Hid (Below B w wx)) ⟨Lib.hid (ln_box hH.symm), Lib.hid (HH.out.later ((Below.refl _ _).alloc (Nat.le_refl _) _)), Lib.hid ((Below.refl _ _).alloc hBw _)⟩ ?_
  clear hH HH hBw
  rintro w1 ⟨X1, G1, B1⟩
  have gl := X1.out.lt
  have z0 := X1.out.cell 0
  have z1 := X1.out.cell 1
  simp only [List.getElem?_toArray, List.getElem?_cons_zero, List.getElem?_cons_succ] at z0 z1
  have g1 : w1.cell? ⟨O, D + 1, none⟩ = some (.slice cur.2.ra cur.1.ru.length cur.2.rc) := by rw [← HD.out]; exact G1.out.cell 1 (by omega)
  have g2 : w1.cell? ⟨O, D + 2, none⟩ = some (.int .i64 cur.1.de) := by rw [← HD.out]; exact G1.out.cell 2 (by omega)
  have gl2 : O < w1.heap.size := Nat.lt_of_lt_of_le G1.out.oM G1.out.Mw
  have fr2 : w1.frozen? ⟨O, D + 2, none⟩ = false := G1.out.own.free _
  cases b1 with
  | true =>
    have hka : k = kAL := of_decide_eq_true E1.out.symm
    have HA : Hid (appG cur.1 k v = some (if em = false ∧ cur.1.ru.length < 64 then ⟨cur.1.ag, cur.1.ru ++ [(true, v)], cur.1.de⟩ else cur.1)) := Lib.hid (by
      unfold appG
      rw [if_pos (Or.inl hka), EM.out, decide_eq_true hka]
      by_cases hv : v = []
      · simp [hv]
      · simp [hv])
    clear hka E1 E2 E3 hb2 hb3 EM
    cases em with
    | true =>
      have HE : Hid (appG cur.1 k v = some cur.1) := Lib.hid (by rw [HA.out]; rw [if_neg (fun h => by cases h.1)])
      clear HA
      go_wp2
      exact bodyPost_ret (v := .bool true) (by simp [results, Tryz.results34, go_sem]) rfl ⟨cur, by rw [HE.out]; rfl, G1.out, by rw [HE.out]; rfl, B1.out⟩
    | false =>
      by_cases h64 : cur.1.ru.length < 64
      · have d64 : decide ((cur.1.ru.length : Int) < 64) = true := decide_eq_true (by omega)
        have d64' : decide (cur.1.ru.length < 64) = true := decide_eq_true h64
        have HE : Hid (appG cur.1 k v = some ⟨cur.1.ag, cur.1.ru ++ [(true, v)], cur.1.de⟩) := Lib.hid (by rw [HA.out, if_pos ⟨rfl, h64⟩])
        have GD := Lib.hid (G1.out.later ((Below.refl _ _).drew))
        have OR := Lib.hid GD.out.rows.r
        have HBW : Hid (B ≤ w1.drew.heap.size) := Lib.hid (by have := GD.out.BO; have := GD.out.oM; have := GD.out.Mw; omega)
        have NO : Hid (some O ≠ cur.2.ra.map (·.block)) := Lib.hid (fun e => by
          have := GD.out.cr O (own_block GD.out.rows.r e.symm)
          have := GD.out.oM
          omega)
        have HZ : Hid (ruC cur.1.ru ++ (#[Value.bool true, .string sv] : Array Value).toList = ruC (cur.1.ru ++ [(true, v)])) := Lib.hid (by rw [ruC_app, ← HV.out]; unfold ruC; simp [strL_btL])
        have LEAF : Hid (∀ (g cap' : Nat) (w3 : World), Own w3 B 30 2 (some ⟨g, 0, none⟩) (cur.1.ru.length + 1) cap' (ruC (cur.1.ru ++ [(true, v)])) → w1.drew.grownBy w3 (cur.2.ra.map (·.block)) → Below B w1.drew w3 → (cur.2.ra.map (·.block) = some g ∨ g = w1.drew.heap.size + 1) → AppP 58 B O M cap done cur k v w (.returned (.bool true)) (w3.setCell ⟨O, D + 1, none⟩ (.slice (some ⟨g, 0, none⟩) (cur.1.ru.length + 1) cap'))) := Lib.hid (fun g cap' w3 q1 q2 q3 q4 => by
          have q5 := GD.out.rule (z := (true, v)) q1 q2 (by rcases q4 with q4 | q4; exact Or.inl q4; exact Or.inr (by omega))
          rw [HD.out] at q5
          exact ⟨_, by rw [HE.out]; rfl, q5, by rw [HE.out]; rfl, ((B1.out.trans ((Below.refl _ _).drew)).trans q3).setCell (p := ⟨O, D + 1, none⟩) G1.out.BO _⟩)
        have fr1 : w1.frozen? ⟨O, D + 1, none⟩ = false := G1.out.own.free _
        clear HA
        go_upto_region 6 with fail
        refine wp_region_last 15 (fun w' => w'.heap[O]? = w1.heap[O]? ∧ w'.heap[H]? = w1.heap[H]?) (by kernel_rfl) (⟨rfl, rfl⟩) (fun hHeld hClosed => ?_)
        refine wpAnyL_take (i := 0) (v := ?_) rfl (by kernel_rfl) (by kernel_rfl) (by kernel_rfl) (by kernel_rfl) (fun _ _ _ h => h) (by kernel_rfl) hClosed (Or.inl ⟨by rfl, ?_⟩) hHeld (fun hClosed => ?_)
        rotate_left
        · intro wv hSw; go_simp; all_goals (with_reducible rfl)
        (try simp only [List.getElem_toArray, List.getElem_cons_zero, put_at, List.set])
        refine wpAnyL_take (i := 1) (v := ?_) rfl (by kernel_rfl) (by kernel_rfl) (by kernel_rfl) (by kernel_rfl) (fun _ _ _ h => h) (by kernel_rfl) hClosed (Or.inl ⟨by rfl, ?_⟩) hHeld (fun hClosed => ?_)
        rotate_left
        · intro wv hSw; go_simp; all_goals (with_reducible rfl)
        (try simp only [List.getElem_toArray, List.getElem_cons_succ, List.getElem_cons_zero, put_at, List.set])
        refine wpAnyL_take (i := 2) (v := ?_) rfl (by kernel_rfl) (by kernel_rfl) (by kernel_rfl) (by kernel_rfl) (fun _ _ _ h => h) (by kernel_rfl) hClosed (Or.inl ⟨by rfl, ?_⟩) hHeld (fun hClosed => ?_)
        rotate_left
        · intro wv hSw; go_simp; all_goals (with_reducible rfl)
        (try simp only [List.getElem_toArray, List.getElem_cons_succ, List.getElem_cons_zero, put_at, List.set])
        refine wpAnyL_take (i := 3) (v := ?_) rfl (by kernel_rfl) (by kernel_rfl) (by kernel_rfl) (by kernel_rfl) (fun _ _ _ h => h) (by kernel_rfl) hClosed (Or.inl ⟨by rfl, ?_⟩) hHeld (fun hClosed => ?_)
        rotate_left
        · intro wv hSw; go_simp; all_goals (with_reducible rfl)
        (try simp only [List.getElem_toArray, List.getElem_cons_succ, List.getElem_cons_zero, put_at, List.set])
        refine wpAnyL_take (i := 4) (v := ?_) rfl (by kernel_rfl) (by kernel_rfl) (by kernel_rfl) (by kernel_rfl) (fun _ _ _ h => h) (by kernel_rfl) hClosed (Or.inl ⟨by rfl, ?_⟩) hHeld (fun hClosed => ?_)
        rotate_left
        · intro wv hSw; have e0 := cell_blk hSw.1 (D + 1); have e1 := cell_blk hSw.2 0; have e2 := cell_blk hSw.2 1; rw [g1] at e0; rw [z0] at e1; rw [z1] at e2; go_simp; all_goals (with_reducible rfl)
        (try simp only [List.getElem_toArray, List.getElem_cons_succ, List.getElem_cons_zero, put_at, List.set])
        refine wpAnyL_take (i := 5) (v := ?_) rfl (by kernel_rfl) (by kernel_rfl) (by kernel_rfl) (by kernel_rfl) (fun _ _ _ h => h) (by kernel_rfl) hClosed (Or.inl ⟨by rfl, ?_⟩) hHeld (fun hClosed => ?_)
        rotate_left
        · intro wv hSw; go_simp; all_goals (with_reducible rfl)
        (try simp only [List.getElem_toArray, List.getElem_cons_succ, List.getElem_cons_zero, put_at, List.set])
        refine wpAnyL_take (i := 6) (v := ?_) rfl (by kernel_rfl) (by kernel_rfl) (by kernel_rfl) (by kernel_rfl) (fun _ _ _ h => h) (by kernel_rfl) hClosed (Or.inl ⟨by rfl, ?_⟩) hHeld (fun hClosed => ?_)
        rotate_left
        · intro wv hSw; have e0 := cell_blk hSw.1 (D + 1); have e1 := cell_blk hSw.2 0; have e2 := cell_blk hSw.2 1; rw [g1] at e0; rw [z0] at e1; rw [z1] at e2; go_simp; all_goals (with_reducible rfl)
        (try simp only [List.getElem_toArray, List.getElem_cons_succ, List.getElem_cons_zero, put_at, List.set])
        refine wpAnyL_take (i := 7) (v := ?_) rfl (by kernel_rfl) (by kernel_rfl) (by kernel_rfl) (by kernel_rfl) (fun _ _ _ h => h) (by kernel_rfl) hClosed (Or.inl ⟨by rfl, ?_⟩) hHeld (fun hClosed => ?_)
        rotate_left
        · intro wv hSw; go_simp; all_goals (with_reducible rfl)
        (try simp only [List.getElem_toArray, List.getElem_cons_succ, List.getElem_cons_zero, put_at, List.set])
        refine wpAnyL_take (i := 8) (v := ?_) rfl (by kernel_rfl) (by kernel_rfl) (by kernel_rfl) (by kernel_rfl) (fun _ _ _ h => h) (by kernel_rfl) hClosed (Or.inl ⟨by rfl, ?_⟩) hHeld (fun hClosed => ?_)
        rotate_left
        · intro wv hSw; go_simp; all_goals (with_reducible rfl)
        (try simp only [List.getElem_toArray, List.getElem_cons_succ, List.getElem_cons_zero, put_at, List.set])
        refine wpAnyL_take (i := 9) (v := ?_) rfl (by kernel_rfl) (by kernel_rfl) (by kernel_rfl) (by kernel_rfl) (fun _ _ _ h => h) (by kernel_rfl) hClosed (Or.inl ⟨by rfl, ?_⟩) hHeld (fun hClosed => ?_)
        rotate_left
        · intro wv hSw; have e0 := cell_blk hSw.1 (D + 1); have e1 := cell_blk hSw.2 0; have e2 := cell_blk hSw.2 1; rw [g1] at e0; rw [z0] at e1; rw [z1] at e2; go_simp; all_goals (with_reducible rfl)
        (try simp only [List.getElem_toArray, List.getElem_cons_succ, List.getElem_cons_zero, put_at, List.set])
        refine wpAnyL_take (i := 10) (v := ?_) rfl (by kernel_rfl) (by kernel_rfl) (by kernel_rfl) (by kernel_rfl) (fun _ _ _ h => h) (by kernel_rfl) hClosed (Or.inl ⟨by rfl, ?_⟩) hHeld (fun hClosed => ?_)
        rotate_left
        · intro wv hSw; go_simp; all_goals (with_reducible rfl)
        (try simp only [List.getElem_toArray, List.getElem_cons_succ, List.getElem_cons_zero, put_at, List.set])
        refine wpAnyL_one (i := 11) rfl (by kernel_rfl) (by kernel_rfl) hClosed (fun KK hK => ?_)
        go_simp
        refine hK.out _ _ ?_ (fun hClosed hHeld => ?_)
        · exact ⟨(Below.heap_alloc w1.drew _ O gl2).trans hHeld.1, (Below.heap_alloc w1.drew _ H gl).trans hHeld.2⟩
        clear hK KK
        (first | simp only [List.getElem_toArray, List.getElem_cons_succ, List.getElem_cons_zero, put_at, List.set] | (try simp only [put_at, List.set]))
        refine wpAnyL_one (i := 12) rfl (by kernel_rfl) (by kernel_rfl) hClosed (fun KK hK => ?_)
        refine step_app1 rowU rfl _ _ rfl B cur.2.ra cur.1.ru.length cur.2.rc (ruC cur.1.ru) rfl OR.out #[.bool true, .string sv] rfl rfl (bs_one _ _) (by omega) (by decide) HBW.out (cur.1.ru.length + 1) rfl (ruC (cur.1.ru ++ [(true, v)])) HZ.out ?_
        rintro g cap' w3 ow3 gr3 bl3 lc3
        refine hK.out _ _ ?_ (fun hClosed hHeld => ?_)
        · exact ⟨(gr3.block O gl2 NO.out), (gr3.block H gl NH.out)⟩
        clear hK KK
        (first | simp only [List.getElem_toArray, List.getElem_cons_succ, List.getElem_cons_zero, put_at, List.set] | (try simp only [put_at, List.set]))
        refine wpAnyL_take (i := 13) (v := ?_) rfl (by kernel_rfl) (by kernel_rfl) (by kernel_rfl) (by kernel_rfl) (fun _ _ _ h => h) (by kernel_rfl) hClosed (Or.inl ⟨by rfl, ?_⟩) hHeld (fun hClosed => ?_)
        rotate_left
        · intro wv hSw; go_simp; all_goals (with_reducible rfl)
        (try simp only [List.getElem_toArray, List.getElem_cons_succ, List.getElem_cons_zero, put_at, List.set])
        refine wpAnyL_take (i := 14) (v := ?_) rfl (by kernel_rfl) (by kernel_rfl) (by kernel_rfl) (by kernel_rfl) (fun _ _ _ h => h) (by kernel_rfl) hClosed (Or.inl ⟨by rfl, ?_⟩) hHeld (fun hClosed => ?_)
        rotate_left
        · intro wv hSw; go_simp; all_goals (with_reducible rfl)
        (try simp only [List.getElem_toArray, List.getElem_cons_succ, List.getElem_cons_zero, put_at, List.set])
        refine wpAnyL_last rfl (by kernel_rfl) (by kernel_rfl) (fun KK hK => ?_)
        have c3 := (cell_blk hHeld.1 (D + 1)).trans g1
        have f3 := (frz_blk hHeld.1 (D + 1)).trans fr1
        go_simp
        refine hK.out _ _ ?_
        (try simp only [put_at, List.set])
        go_wp2
        exact bodyPost_ret (v := .bool true) (by simp [results, Tryz.results34, go_sem]) rfl (LEAF.out g cap' w3 ow3 gr3 bl3 lc3)
      · have d64 : decide ((cur.1.ru.length : Int) < 64) = false := decide_eq_false (by omega)
        have d64' : decide (cur.1.ru.length < 64) = false := decide_eq_false h64
        have HE : Hid (appG cur.1 k v = some cur.1) := Lib.hid (by rw [HA.out]; rw [if_neg (fun h => h64 h.2)])
        clear HA
        go_wp2
        exact bodyPost_ret (v := .bool true) (by simp [results, Tryz.results34, go_sem]) rfl ⟨cur, by rw [HE.out]; rfl, G1.out, by rw [HE.out]; rfl, B1.out⟩
  | false =>
    have hka : ¬ k = kAL := of_decide_eq_false E1.out.symm
    cases b2 with
    | true =>
      have hkd : k = kDI := of_decide_eq_true E2.out.symm
      have HA : Hid (appG cur.1 k v = some (if em = false ∧ cur.1.ru.length < 64 then ⟨cur.1.ag, cur.1.ru ++ [(false, v)], cur.1.de⟩ else cur.1)) := Lib.hid (by
        unfold appG
        rw [if_pos (Or.inr hkd), EM.out, decide_eq_false hka]
        by_cases hv : v = []
        · simp [hv]
        · simp [hv])
      clear hka hkd E1 E2 E3 hb3 EM
      cases em with
      | true =>
        have HE : Hid (appG cur.1 k v = some cur.1) := Lib.hid (by rw [HA.out]; rw [if_neg (fun h => by cases h.1)])
        clear HA
        go_wp2
        exact bodyPost_ret (v := .bool true) (by simp [results, Tryz.results34, go_sem]) rfl ⟨cur, by rw [HE.out]; rfl, G1.out, by rw [HE.out]; rfl, B1.out⟩
      | false =>
        by_cases h64 : cur.1.ru.length < 64
        · have d64 : decide ((cur.1.ru.length : Int) < 64) = true := decide_eq_true (by omega)
          have d64' : decide (cur.1.ru.length < 64) = true := decide_eq_true h64
          have HE : Hid (appG cur.1 k v = some ⟨cur.1.ag, cur.1.ru ++ [(false, v)], cur.1.de⟩) := Lib.hid (by rw [HA.out, if_pos ⟨rfl, h64⟩])
          have GD := Lib.hid (G1.out.later ((Below.refl _ _).drew))
          have OR := Lib.hid GD.out.rows.r
          have HBW : Hid (B ≤ w1.drew.heap.size) := Lib.hid (by have := GD.out.BO; have := GD.out.oM; have := GD.out.Mw; omega)
          have NO : Hid (some O ≠ cur.2.ra.map (·.block)) := Lib.hid (fun e => by
            have := GD.out.cr O (own_block GD.out.rows.r e.symm)
            have := GD.out.oM
            omega)
          have HZ : Hid (ruC cur.1.ru ++ (#[Value.bool false, .string sv] : Array Value).toList = ruC (cur.1.ru ++ [(false, v)])) := Lib.hid (by rw [ruC_app, ← HV.out]; unfold ruC; simp [strL_btL])
          have LEAF : Hid (∀ (g cap' : Nat) (w3 : World), Own w3 B 30 2 (some ⟨g, 0, none⟩) (cur.1.ru.length + 1) cap' (ruC (cur.1.ru ++ [(false, v)])) → w1.drew.grownBy w3 (cur.2.ra.map (·.block)) → Below B w1.drew w3 → (cur.2.ra.map (·.block) = some g ∨ g = w1.drew.heap.size + 1) → AppP 58 B O M cap done cur k v w (.returned (.bool true)) (w3.setCell ⟨O, D + 1, none⟩ (.slice (some ⟨g, 0, none⟩) (cur.1.ru.length + 1) cap'))) := Lib.hid (fun g cap' w3 q1 q2 q3 q4 => by
            have q5 := GD.out.rule (z := (false, v)) q1 q2 (by rcases q4 with q4 | q4; exact Or.inl q4; exact Or.inr (by omega))
            rw [HD.out] at q5
            exact ⟨_, by rw [HE.out]; rfl, q5, by rw [HE.out]; rfl, ((B1.out.trans ((Below.refl _ _).drew)).trans q3).setCell (p := ⟨O, D + 1, none⟩) G1.out.BO _⟩)
          have fr1 : w1.frozen? ⟨O, D + 1, none⟩ = false := G1.out.own.free _
          clear HA
          go_upto_region 6 with fail
          refine wp_region_last 15 (fun w' => w'.heap[O]? = w1.heap[O]? ∧ w'.heap[H]? = w1.heap[H]?) (by kernel_rfl) (⟨rfl, rfl⟩) (fun hHeld hClosed => ?_)
          refine wpAnyL_take (i := 0) (v := ?_) rfl (by kernel_rfl) (by kernel_rfl) (by kernel_rfl) (by kernel_rfl) (fun _ _ _ h => h) (by kernel_rfl) hClosed (Or.inl ⟨by rfl, ?_⟩) hHeld (fun hClosed => ?_)
          rotate_left
          · intro wv hSw; go_simp; all_goals (with_reducible rfl)
          (try simp only [List.getElem_toArray, List.getElem_cons_zero, put_at, List.set])
          refine wpAnyL_take (i := 1) (v := ?_) rfl (by kernel_rfl) (by kernel_rfl) (by kernel_rfl) (by kernel_rfl) (fun _ _ _ h => h) (by kernel_rfl) hClosed (Or.inl ⟨by rfl, ?_⟩) hHeld (fun hClosed => ?_)
          rotate_left
          · intro wv hSw; go_simp; all_goals (with_reducible rfl)
          (try simp only [List.getElem_toArray, List.getElem_cons_succ, List.getElem_cons_zero, put_at, List.set])
          refine wpAnyL_take (i := 2) (v := ?_) rfl (by kernel_rfl) (by kernel_rfl) (by kernel_rfl) (by kernel_rfl) (fun _ _ _ h => h) (by kernel_rfl) hClosed (Or.inl ⟨by rfl, ?_⟩) hHeld (fun hClosed => ?_)
          rotate_left
          · intro wv hSw; go_simp; all_goals (with_reducible rfl)
          (try simp only [List.getElem_toArray, List.getElem_cons_succ, List.getElem_cons_zero, put_at, List.set])
          refine wpAnyL_take (i := 3) (v := ?_) rfl (by kernel_rfl) (by kernel_rfl) (by kernel_rfl) (by kernel_rfl) (fun _ _ _ h => h) (by kernel_rfl) hClosed (Or.inl ⟨by rfl, ?_⟩) hHeld (fun hClosed => ?_)
          rotate_left
          · intro wv hSw; go_simp; all_goals (with_reducible rfl)
          (try simp only [List.getElem_toArray, List.getElem_cons_succ, List.getElem_cons_zero, put_at, List.set])
          refine wpAnyL_take (i := 4) (v := ?_) rfl (by kernel_rfl) (by kernel_rfl) (by kernel_rfl) (by kernel_rfl) (fun _ _ _ h => h) (by kernel_rfl) hClosed (Or.inl ⟨by rfl, ?_⟩) hHeld (fun hClosed => ?_)
          rotate_left
          · intro wv hSw; have e0 := cell_blk hSw.1 (D + 1); have e1 := cell_blk hSw.2 0; have e2 := cell_blk hSw.2 1; rw [g1] at e0; rw [z0] at e1; rw [z1] at e2; go_simp; all_goals (with_reducible rfl)
          (try simp only [List.getElem_toArray, List.getElem_cons_succ, List.getElem_cons_zero, put_at, List.set])
          refine wpAnyL_take (i := 5) (v := ?_) rfl (by kernel_rfl) (by kernel_rfl) (by kernel_rfl) (by kernel_rfl) (fun _ _ _ h => h) (by kernel_rfl) hClosed (Or.inl ⟨by rfl, ?_⟩) hHeld (fun hClosed => ?_)
          rotate_left
          · intro wv hSw; go_simp; all_goals (with_reducible rfl)
          (try simp only [List.getElem_toArray, List.getElem_cons_succ, List.getElem_cons_zero, put_at, List.set])
          refine wpAnyL_take (i := 6) (v := ?_) rfl (by kernel_rfl) (by kernel_rfl) (by kernel_rfl) (by kernel_rfl) (fun _ _ _ h => h) (by kernel_rfl) hClosed (Or.inl ⟨by rfl, ?_⟩) hHeld (fun hClosed => ?_)
          rotate_left
          · intro wv hSw; have e0 := cell_blk hSw.1 (D + 1); have e1 := cell_blk hSw.2 0; have e2 := cell_blk hSw.2 1; rw [g1] at e0; rw [z0] at e1; rw [z1] at e2; go_simp; all_goals (with_reducible rfl)
          (try simp only [List.getElem_toArray, List.getElem_cons_succ, List.getElem_cons_zero, put_at, List.set])
          refine wpAnyL_take (i := 7) (v := ?_) rfl (by kernel_rfl) (by kernel_rfl) (by kernel_rfl) (by kernel_rfl) (fun _ _ _ h => h) (by kernel_rfl) hClosed (Or.inl ⟨by rfl, ?_⟩) hHeld (fun hClosed => ?_)
          rotate_left
          · intro wv hSw; go_simp; all_goals (with_reducible rfl)
          (try simp only [List.getElem_toArray, List.getElem_cons_succ, List.getElem_cons_zero, put_at, List.set])
          refine wpAnyL_take (i := 8) (v := ?_) rfl (by kernel_rfl) (by kernel_rfl) (by kernel_rfl) (by kernel_rfl) (fun _ _ _ h => h) (by kernel_rfl) hClosed (Or.inl ⟨by rfl, ?_⟩) hHeld (fun hClosed => ?_)
          rotate_left
          · intro wv hSw; go_simp; all_goals (with_reducible rfl)
          (try simp only [List.getElem_toArray, List.getElem_cons_succ, List.getElem_cons_zero, put_at, List.set])
          refine wpAnyL_take (i := 9) (v := ?_) rfl (by kernel_rfl) (by kernel_rfl) (by kernel_rfl) (by kernel_rfl) (fun _ _ _ h => h) (by kernel_rfl) hClosed (Or.inl ⟨by rfl, ?_⟩) hHeld (fun hClosed => ?_)
          rotate_left
          · intro wv hSw; have e0 := cell_blk hSw.1 (D + 1); have e1 := cell_blk hSw.2 0; have e2 := cell_blk hSw.2 1; rw [g1] at e0; rw [z0] at e1; rw [z1] at e2; go_simp; all_goals (with_reducible rfl)
          (try simp only [List.getElem_toArray, List.getElem_cons_succ, List.getElem_cons_zero, put_at, List.set])
          refine wpAnyL_take (i := 10) (v := ?_) rfl (by kernel_rfl) (by kernel_rfl) (by kernel_rfl) (by kernel_rfl) (fun _ _ _ h => h) (by kernel_rfl) hClosed (Or.inl ⟨by rfl, ?_⟩) hHeld (fun hClosed => ?_)
          rotate_left
          · intro wv hSw; go_simp; all_goals (with_reducible rfl)
          (try simp only [List.getElem_toArray, List.getElem_cons_succ, List.getElem_cons_zero, put_at, List.set])
          refine wpAnyL_one (i := 11) rfl (by kernel_rfl) (by kernel_rfl) hClosed (fun KK hK => ?_)
          go_simp
          refine hK.out _ _ ?_ (fun hClosed hHeld => ?_)
          · exact ⟨(Below.heap_alloc w1.drew _ O gl2).trans hHeld.1, (Below.heap_alloc w1.drew _ H gl).trans hHeld.2⟩
          clear hK KK
          (first | simp only [List.getElem_toArray, List.getElem_cons_succ, List.getElem_cons_zero, put_at, List.set] | (try simp only [put_at, List.set]))
          refine wpAnyL_one (i := 12) rfl (by kernel_rfl) (by kernel_rfl) hClosed (fun KK hK => ?_)
          refine step_app1 rowU rfl _ _ rfl B cur.2.ra cur.1.ru.length cur.2.rc (ruC cur.1.ru) rfl OR.out #[.bool false, .string sv] rfl rfl (bs_one _ _) (by omega) (by decide) HBW.out (cur.1.ru.length + 1) rfl (ruC (cur.1.ru ++ [(false, v)])) HZ.out ?_
          rintro g cap' w3 ow3 gr3 bl3 lc3
          refine hK.out _ _ ?_ (fun hClosed hHeld => ?_)
          · exact ⟨(gr3.block O gl2 NO.out), (gr3.block H gl NH.out)⟩
          clear hK KK
          (first | simp only [List.getElem_toArray, List.getElem_cons_succ, List.getElem_cons_zero, put_at, List.set] | (try simp only [put_at, List.set]))
          refine wpAnyL_take (i := 13) (v := ?_) rfl (by kernel_rfl) (by kernel_rfl) (by kernel_rfl) (by kernel_rfl) (fun _ _ _ h => h) (by kernel_rfl) hClosed (Or.inl ⟨by rfl, ?_⟩) hHeld (fun hClosed => ?_)
          rotate_left
          · intro wv hSw; go_simp; all_goals (with_reducible rfl)
          (try simp only [List.getElem_toArray, List.getElem_cons_succ, List.getElem_cons_zero, put_at, List.set])
          refine wpAnyL_take (i := 14) (v := ?_) rfl (by kernel_rfl) (by kernel_rfl) (by kernel_rfl) (by kernel_rfl) (fun _ _ _ h => h) (by kernel_rfl) hClosed (Or.inl ⟨by rfl, ?_⟩) hHeld (fun hClosed => ?_)
          rotate_left
          · intro wv hSw; go_simp; all_goals (with_reducible rfl)
          (try simp only [List.getElem_toArray, List.getElem_cons_succ, List.getElem_cons_zero, put_at, List.set])
          refine wpAnyL_last rfl (by kernel_rfl) (by kernel_rfl) (fun KK hK => ?_)
          have c3 := (cell_blk hHeld.1 (D + 1)).trans g1
          have f3 := (frz_blk hHeld.1 (D + 1)).trans fr1
          go_simp
          refine hK.out _ _ ?_
          (try simp only [put_at, List.set])
          go_wp2
          exact bodyPost_ret (v := .bool true) (by simp [results, Tryz.results34, go_sem]) rfl (LEAF.out g cap' w3 ow3 gr3 bl3 lc3)
        · have d64 : decide ((cur.1.ru.length : Int) < 64) = false := decide_eq_false (by omega)
          have d64' : decide (cur.1.ru.length < 64) = false := decide_eq_false h64
          have HE : Hid (appG cur.1 k v = some cur.1) := Lib.hid (by rw [HA.out]; rw [if_neg (fun h => h64 h.2)])
          clear HA
          go_wp2
          exact bodyPost_ret (v := .bool true) (by simp [results, Tryz.results34, go_sem]) rfl ⟨cur, by rw [HE.out]; rfl, G1.out, by rw [HE.out]; rfl, B1.out⟩
    | false =>
      have hkd : ¬ k = kDI := of_decide_eq_false E2.out.symm
      cases b3 with
      | true =>
        have hkc : k = kCD := of_decide_eq_true E3.out.symm
        have HA : Hid (appG cur.1 k v = some (delG cur.1 od)) := Lib.hid (by
          unfold appG
          rw [if_neg (by rintro (h | h); exact hka h; exact hkd h), if_pos hkc, HOD.out])
        clear hka hkd hkc E1 E2 E3 EM
        go_wp2_with fail
        refine (DL.out _).mono ?_
        rintro e w2 ⟨rfl, hb⟩
        have G2 := Lib.hid (G1.out.later hb)
        have B2 := Lib.hid (B1.out.trans (hb.mono (by have := G1.out.BO; have := G1.out.oM; have := G1.out.Mw; omega)))
        clear hb z0 z1 g1 g2 gl gl2 fr2 X1
        have g2 : w2.cell? ⟨O, D + 2, none⟩ = some (.int .i64 cur.1.de) := by rw [← HD.out]; exact G2.out.cell 2 (by omega)
        have gl2 : O < w2.heap.size := Nat.lt_of_lt_of_le G2.out.oM G2.out.Mw
        have fr2 : w2.frozen? ⟨O, D + 2, none⟩ = false := G2.out.own.free _
        cases od with
        | none =>
          simp only [Option.getD_none, Option.isSome_none]
          go_wp2
          exact bodyPost_ret (v := .bool true) (by simp [results, Tryz.results34, go_sem]) rfl ⟨cur, by rw [HA.out]; rfl, G2.out, by rw [HA.out]; rfl, B2.out⟩
        | some d =>
          simp only [Option.getD_some, Option.isSome_some]
          have LEAF : Hid (AppP 58 B O M cap done cur k v w (.returned (.bool true)) (w2.setCell ⟨O, D + 2, none⟩ (.int .i64 (max cur.1.de d)))) := Lib.hid (by
            have q5 := G2.out.delay (max cur.1.de d)
            rw [HD.out] at q5
            exact ⟨_, by rw [HA.out]; rfl, q5, by rw [HA.out]; rfl, B2.out.setCell (p := ⟨O, D + 2, none⟩) G2.out.BO _⟩)
          clear HA
          go_wp2
          exact bodyPost_ret (v := .bool true) (by simp [results, Tryz.results34, go_sem]) rfl LEAF.out
      | false =>
        have hkc : ¬ k = kCD := of_decide_eq_false E3.out.symm
        have HA : Hid (appG cur.1 k v = none) := Lib.hid (by
          unfold appG
          rw [if_neg (by rintro (h | h); exact hka h; exact hkd h), if_neg hkc])
        clear hka hkd hkc E1 E2 E3 EM
        go_wp2
        exact bodyPost_ret (v := .bool false) (by simp [results, Tryz.results34, go_sem]) rfl ⟨cur, by rw [HA.out]; rfl, G1.out, by rw [HA.out]; rfl, B1.out⟩
end Go.Proofs.YtodlecjbpmggiaaGreatDoor
