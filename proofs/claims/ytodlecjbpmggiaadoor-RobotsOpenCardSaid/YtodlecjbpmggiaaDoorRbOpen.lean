/- RobotsOpen: the walk (begun). -/
import Derived.Test.YtodlecjbpmggiaaDoorRbAwk
namespace Go.Proofs.YtodlecjbpmggiaaDoor
open Go Go.RowKit
set_option linter.unusedVariables false
set_option linter.unusedSimpArgs false
set_option maxRecDepth 10000

/-- A slice that is read, wherever it begins. -/
def RdO (w : World) (a : Option Addr) (xs : List Value) : Prop := ∀ j u, xs[j]? = some u → ∃ b off, a = some ⟨b, off, none⟩ ∧ w.cell? ⟨b, off + j, none⟩ = some u
theorem RdO.later {w w' : World} {a : Option Addr} {xs : List Value} (h : RdO w a xs) (hb : Below w.heap.size w w') : RdO w' a xs := fun j u hj => by
  obtain ⟨g, off, h1, h2⟩ := h j u hj
  exact ⟨g, off, h1, (hb.cell (World.block_lt_of_cell? _ _ h2)).trans h2⟩
theorem rbF_app (a b : List Rl) : flatL (a ++ b) = flatL a ++ flatL b := by
  induction a with
  | nil => rfl
  | cons x t ih => simp only [List.cons_append, flatL, ih, List.append_assoc]
theorem rbF_one (a : List Rl) : ∀ u ∈ flatL a, u.oneCell' = true := by
  induction a with
  | nil => intro u hu; simp [flatL] at hu
  | cons x t ih =>
    intro u hu
    simp only [flatL, rlL, List.mem_append, List.mem_cons, List.not_mem_nil, or_false] at hu
    rcases hu with (rfl | rfl) | hu
    · rfl
    · rfl
    · exact ih u hu
theorem rbF_at : ∀ (l : List Rl) (j : Nat) (u : Value), (flatL l)[j]? = some u → ∃ i r, l[i]? = some r ∧ ((j = i * 2 ∧ u = .bool r.allow) ∨ (j = i * 2 + 1 ∧ u = .string r.pat))
  | [], j, u, h => by simp [flatL] at h
  | x :: t, 0, u, h => ⟨0, x, rfl, Or.inl ⟨rfl, by simpa [flatL, rlL] using h.symm⟩⟩
  | x :: t, 1, u, h => ⟨0, x, rfl, Or.inr ⟨rfl, by simpa [flatL, rlL] using h.symm⟩⟩
  | x :: t, j + 2, u, h => by
    have h2 : (flatL t)[j]? = some u := by simpa [flatL, rlL] using h
    obtain ⟨i, r, h3, h4⟩ := rbF_at t j u h2
    exact ⟨i + 1, r, by simpa using h3, by rcases h4 with ⟨h5, h6⟩ | ⟨h5, h6⟩; exact Or.inl ⟨by omega, h6⟩; exact Or.inr ⟨by omega, h6⟩⟩
theorem RdR.rdo {w : World} {a : Option Addr} {rs : List Rl} (h : RdR w a rs) : RdO w a (flatL rs) := fun j u hj => by
  obtain ⟨b, off, h1, h2⟩ := h
  obtain ⟨i, r, hi, hh⟩ := rbF_at rs j u hj
  have hp : 0 < rs.length := by have := (List.getElem?_eq_some_iff.1 hi).1; omega
  obtain ⟨k1, k2⟩ := h2 i r hi
  rcases hh with ⟨rfl, rfl⟩ | ⟨rfl, rfl⟩
  · exact ⟨b, off, h1 hp, k1⟩
  · exact ⟨b, off, h1 hp, by rw [show off + (i * 2 + 1) = off + i * 2 + 1 by omega]; exact k2⟩
section
variable {P : Program} {ops : Array Oper} {rest : List Oper} {o : Oper} {act : Act} {Q : Exit → Act → World → Prop} {w : World}
theorem wpList_appO {T E : TypeId} {size bytes : Nat} (hT : RowTy P T E size bytes) (hgd : o.guard = none) (s x : Operand) (ho : o.op = .call { callee := .builtin .append, args := #[s, x], argTypes := #[T, T] })
    (B : Nat) (a : Option Addr) (n cap : Nat) (xs : List Value) (hs : act.eval s = .slice a n cap) (hown : Own w B E size a n cap xs)
    (a2 : Option Addr) (m c2 : Nat) (ys : List Value) (hx : act.eval x = .slice a2 m c2) (hl : ys.length = m * size) (hr : RdO w a2 ys) (h1 : ∀ u ∈ ys, u.oneCell' = true)
    (h63 : n + m ≤ 1000000) (hby : bytes ≤ 100000) (hB : B ≤ w.heap.size) (N : Nat) (hN : n + m = N) (zs : List Value) (hz : xs ++ ys = zs)
    (h : ∀ a' cap' w', Own w' B E size a' N cap' zs → w.grownBy w' (a.map (·.block)) → Below B w w' → wpList P ops Q rest (act.put o.dst (.slice a' N cap')) w') : wpList P ops Q (o :: rest) act w := by
  have hpos := hT.pos
  rcases Nat.eq_zero_or_pos m with h0 | h0
  · subst h0
    obtain rfl : ys = [] := List.length_eq_zero_iff.1 (by omega)
    rw [List.append_nil] at hz
    subst hz
    obtain rfl : n = N := by omega
    refine wpList_plain hgd fun K hK => ?_
    unfold Oper.wp execOp
    simp only [ho, resolve, invoke, builtin, Sem.run_bind, Sem.run_pure, Result.andThen_ok, List.map_toArray, List.map_cons, List.map_nil, hs, hx, run_app0 hT o.type a n cap hown.cap_le a2 c2 w]
    exact hK _ _ (h a cap w hown (World.grownBy.refl w _) (Below.refl _ _))
  · obtain ⟨u, hu⟩ : ∃ u, ys[0]? = some u := ⟨_, List.getElem?_eq_getElem (by rw [hl]; exact Nat.mul_pos h0 hpos)⟩
    obtain ⟨b2, off, rfl, _⟩ := hr 0 u hu
    exact wpList_appR hT hgd s x ho B a n cap xs hs hown b2 off m c2 ys hx h0 hl (fun j u hj => by
      obtain ⟨g, f, e, hc⟩ := hr j u hj
      injection e with e
      injection e with e1 e2
      subst e1
      subst e2
      exact hc) h1 h63 hby hB N hN zs hz (fun g cap' w' q1 q2 q3 _ => h _ cap' w' q1 q2 q3)
end
set_option maxHeartbeats 4000000 in
theorem robotsOpen_w (all no : Bool) (a : Option Addr) (n cap : Nat) (d : Int) (rs : List Rl) (path more : ByteArray) (w : World) (hlen : rs.length = n) (hr : RdR w a rs) (hn : n ≤ cap) (hcap : cap ≤ maxLen) (hsz : ∀ r ∈ rs, r.pat.size ≤ maxLen) (hp : path.size ≤ maxLen) (hm : more.size ≤ maxLen) (hT : TabsM w) :
    Calls Tryd.prog 3 #[.agg #[.bool all, .bool no, .slice a n cap, .int .i64 d], .string path, .string more] w fun e w' => e = .returned (.bool true) ∧ Below w.heap.size w w' := by
  unfold maxLen at hcap hp hm
  have AW := Lib.hid (fun W (hW : Below w.heap.size w W) => awake11 W (hT.later hW))
  have HT := Lib.hid hT
  have HR := Lib.hid hr
  have HLEN := Lib.hid hlen
  have HSZ := Lib.hid hsz
  have BX := Lib.hid (Box.new w #[.bool all, .bool no, .slice a n cap, .int .i64 d] 24)
  have BB := Lib.hid ((Below.refl w.heap.size w).alloc (Nat.le_refl _) (.cells #[.bool all, .bool no, .slice a n cap, .int .i64 d] 24))
  clear hT hr hlen hsz
  go_enter Tryd.func3, Tryd.ntmps3
  go_upto_region 1 with fail
  obtain ⟨w1, hw1⟩ : ∃ W, w.alloc (.cells #[.bool all, .bool no, .slice a n cap, .int .i64 d] 24) = W := ⟨_, rfl⟩
  rw [hw1] at BX BB
  rw [hw1]
  clear hw1
  have c2 := BX.out.cell 2
  have lt := BX.out.lt
  by_cases h1 : 20 < n
  · have d1 : decide ((20 : Int) < (n : Int)) = true := decide_eq_true (by omega)
    go_wp2_with fail
    refine (AW.out _ BB.out).mono ?_
    rintro e w2 ⟨rfl, hb2⟩
    have B2 := Lib.hid (BB.out.trans (hb2.mono BB.out.size))
    clear hb2
    go_wp2
    go_ret
    exact ⟨rfl, B2.out⟩
  have d1 : decide ((20 : Int) < (n : Int)) = false := decide_eq_false (by omega)
  by_cases h2 : 80 < path.size
  · have d2 : decide ((80 : Int) < (path.size : Int)) = true := decide_eq_true (by omega)
    go_wp2_with fail
    refine (AW.out _ BB.out).mono ?_
    rintro e w2 ⟨rfl, hb2⟩
    have B2 := Lib.hid (BB.out.trans (hb2.mono BB.out.size))
    clear hb2
    go_wp2
    go_ret
    exact ⟨rfl, B2.out⟩
  have d2 : decide ((80 : Int) < (path.size : Int)) = false := decide_eq_false (by omega)
  by_cases h3 : 80 < more.size
  · have d3 : decide ((80 : Int) < (more.size : Int)) = true := decide_eq_true (by omega)
    go_wp2_with fail
    refine (AW.out _ BB.out).mono ?_
    rintro e w2 ⟨rfl, hb2⟩
    have B2 := Lib.hid (BB.out.trans (hb2.mono BB.out.size))
    clear hb2
    go_wp2
    go_ret
    exact ⟨rfl, B2.out⟩
  have d3 : decide ((80 : Int) < (more.size : Int)) = false := decide_eq_false (by omega)
  go_upto_region 3 with fail
  clear d1 d2 d3 c2
  go_wp2_with fail
  go_loopw [7] (fun j wr => ∃ i : Nat, i ≤ n ∧ j = .int .i64 (i : Int) ∧ wr = w1 ∧ Hid (∀ r ∈ rs.take i, r.pat.size ≤ 80)) (fun j _ => n - (intOf j).toNat)
  case atStart => exact ⟨0, by omega, rfl, rfl, Lib.hid (fun r hr => by simp at hr)⟩
  case round =>
    obtain ⟨i, hi, rfl, rfl, HP⟩ := hrel
    have c2 := BX.out.cell 2
    by_cases hlt : i < n
    · have hkd : decide ((i : Int) < (n : Int)) = true := decide_eq_true (by omega)
      obtain ⟨r, hrk⟩ : ∃ r, rs[i]? = some r := ⟨rs[i]'(by have := HLEN.out; omega), List.getElem?_eq_getElem _⟩
      obtain ⟨bb, off, ha, hc⟩ := HR.out
      have ha' := ha (by have := HLEN.out; omega)
      subst ha'
      obtain ⟨q0, q1⟩ := hc i r hrk
      have y1 := (BB.out.cell (World.block_lt_of_cell? _ _ q1)).trans q1
      have hrs := HSZ.out r (List.mem_of_getElem? hrk)
      unfold maxLen at hrs
      have HRK := Lib.hid (take_add hrk)
      have hx0 : (0 : Int) ≤ (i : Int) := by omega
      have hx1 : (i : Int) < (n : Int) := by omega
      clear ha hc q0 q1 hrk
      by_cases h4 : 80 < r.pat.size
      · have d4 : decide ((80 : Int) < (r.pat.size : Int)) = true := decide_eq_true (by omega)
        go_wp2_with fail
        refine (AW.out _ BB.out).mono ?_
        rintro e w2 ⟨rfl, hb2⟩
        have B2 := Lib.hid (BB.out.trans (hb2.mono BB.out.size))
        clear hb2
        go_wp2
        go_ret
        exact ⟨rfl, B2.out⟩
      · have d4 : decide ((80 : Int) < (r.pat.size : Int)) = false := decide_eq_false (by omega)
        have NX : Hid (∀ q ∈ rs.take (i + 1), q.pat.size ≤ 80) := Lib.hid (fun q hq => by
          rw [HRK.out] at hq
          rcases List.mem_append.1 hq with hq | hq
          · exact HP.out q hq
          · rw [List.mem_singleton.1 hq]; omega)
        go_wp2
        go_roundw
        case rel => exact ⟨i + 1, by omega, by simp, trivial, NX⟩
        case measure =>
          simp only [intOf]
          omega
    · have hkd : decide ((i : Int) < (n : Int)) = false := decide_eq_false (by omega)
      obtain rfl : i = n := by omega
      have HS : Hid (∀ r ∈ rs, r.pat.size ≤ 80) := Lib.hid (fun r hr => HP.out r (by rw [List.take_of_length_le (by have := HLEN.out; omega)]; exact hr))
      clear HP HSZ
      have c0 := BX.out.cell 0
      have c1 := BX.out.cell 1
      have c3 := BX.out.cell 3
      go_upto_region 9 with fail
      obtain ⟨wB, hwB⟩ : ∃ W, wr.alloc (.cells #[.bool all, .bool no, .slice a i cap, .int .i64 d] 24) = W := ⟨_, rfl⟩
      have B8 := Lib.hid (Box.new wr #[.bool all, .bool no, .slice a i cap, .int .i64 d] 24)
      have R3 := Lib.hid (BX.out.alloc (.cells #[.bool all, .bool no, .slice a i cap, .int .i64 d] 24))
      have BW := Lib.hid (BB.out.alloc BB.out.size (.cells #[.bool all, .bool no, .slice a i cap, .int .i64 d] 24))
      have ne83 : wr.heap.size ≠ w.heap.size := by omega
      rw [hwB] at B8 R3 BW
      rw [hwB]
      clear hwB c0 c1 c2 c3 BX BB
      have c2 := R3.out.cell 2
      have l3 := R3.out.lt
      have l8 := B8.out.lt
      have szB := BW.out.size
      have O0 := Lib.hid (Own.lit (w := wB) (B := w.heap.size) (E := 27) (size := 2) (cs := #[]) (n := 0) szB (by omega) (by simp))
      have RO := Lib.hid ((HR.out.rdo.later BW.out).later ((Below.refl _ _).alloc (Nat.le_refl _) (.cells #[] 27)))
      have R3a := Lib.hid (R3.out.alloc (.cells #[] 27))
      have B8a := Lib.hid (B8.out.alloc (.cells #[] 27))
      have BWa := Lib.hid (BW.out.alloc szB (.cells #[] 27))
      have sza := BWa.out.size
      have flen : (flatL rs).length = i * 2 := by rw [flatL_len, HLEN.out]
      have h1c : (#[.bool true, .string more] : Array Value).all (·.oneCell') = true := by simp [Value.oneCell']
      have HZ : Hid (flatL rs ++ (#[.bool true, .string more] : Array Value).toList = flatL (rs ++ [⟨true, more⟩])) := Lib.hid (by rw [rbF_app]; rfl)
      have FL := Lib.hid flen
      clear flen
      go_upto_region 10 with (at_builtin; first
        | (refine wpList_appO rowU rfl _ _ rfl w.heap.size (some ⟨wB.heap.size, 0, none⟩) 0 0 [] rfl O0.out a i cap (flatL rs) rfl FL.out RO.out (rbF_one _) (by omega) (by decide) sza i (by omega) (flatL rs) rfl ?_; rintro a2 cap2 w3 q1 q2 q3; have OW := Lib.hid q1; have sz3 := Nat.le_trans sza q3.size; have R3b : Hid (Box w3 w.heap.size #[.bool all, .bool no, .slice a i cap, .int .i64 d] 24) := Lib.hid ((q2.block _ R3a.out.lt (own_not_box O0.out R3a.out (by decide))).trans R3a.out); have B8b : Hid (Box w3 wr.heap.size #[.bool all, .bool no, .slice a i cap, .int .i64 d] 24) := Lib.hid ((q2.block _ B8a.out.lt (own_not_box O0.out B8a.out (by decide))).trans B8a.out); have BWb := Lib.hid (BWa.out.trans q3); clear q1 q2 q3)
        | (refine wpList_app1 rowU rfl _ _ rfl w.heap.size a2 i cap2 (flatL rs) rfl OW.out #[.bool true, .string more] rfl rfl h1c (by omega) (by decide) sz3 (i + 1) rfl (flatL (rs ++ [⟨true, more⟩])) HZ.out ?_; rintro g3 cap3 w4 q1 q2 q3 q4; have OX := Lib.hid q1; have sz4 := Nat.le_trans sz3 q3.size; have k3 : Box w4 w.heap.size #[.bool all, .bool no, .slice a i cap, .int .i64 d] 24 := (q2.block _ R3b.out.lt (own_not_box OW.out R3b.out (by decide))).trans R3b.out; have k8 : Box w4 wr.heap.size #[.bool all, .bool no, .slice a i cap, .int .i64 d] 24 := (q2.block _ B8b.out.lt (own_not_box OW.out B8b.out (by decide))).trans B8b.out; have e8 := k8.cell 2; have f8 := k8.free 2; have l8b := k8.lt; have K3 := Lib.hid k3; have K8 := Lib.hid k8; have KB := Lib.hid (BWb.out.trans q3); clear k3 k8 q1 q2 q3 q4))
      have OY := Lib.hid (OX.out.other (p := ⟨wr.heap.size, 2, none⟩) (fun g hg e => own_not_box OX.out K8.out (by decide) (by rw [hg]; exact congrArg some e.symm)) (.slice (some ⟨g3, 0, none⟩) (i + 1) cap3))
      have M8 : Hid (Box (w4.setCell ⟨wr.heap.size, 2, none⟩ (.slice (some ⟨g3, 0, none⟩) (i + 1) cap3)) wr.heap.size #[.bool all, .bool no, .slice (some ⟨g3, 0, none⟩) (i + 1) cap3, .int .i64 d] 24) := Lib.hid (K8.out.set 2 _)
      have M3 : Hid (Box (w4.setCell ⟨wr.heap.size, 2, none⟩ (.slice (some ⟨g3, 0, none⟩) (i + 1) cap3)) w.heap.size #[.bool all, .bool no, .slice a i cap, .int .i64 d] 24) := Lib.hid (K3.out.other (by simp; omega) _)
      have MB := Lib.hid (KB.out.setCell (p := ⟨wr.heap.size, 2, none⟩) (by simp; omega) (.slice (some ⟨g3, 0, none⟩) (i + 1) cap3))
      obtain ⟨w5, hw5⟩ : ∃ W, w4.setCell ⟨wr.heap.size, 2, none⟩ (.slice (some ⟨g3, 0, none⟩) (i + 1) cap3) = W := ⟨_, rfl⟩
      rw [hw5] at OY M8 M3 MB
      rw [hw5]
      clear hw5 OX K8 K3 KB e8 f8 l8b sz4 R3b B8b BWb OW sz3 R3a B8a BWa sza RO O0 c2 R3 B8 BW
      have c0 := M3.out.cell 0
      have c1 := M3.out.cell 1
      have c2 := M3.out.cell 2
      have c3 := M3.out.cell 3
      have l5 := M3.out.lt
      go_cut [9, 10] (fun v9 v10 wx => ∃ p q, v9 = .pointer (some ⟨p, 0, none⟩) ∧ v10 = .pointer (some ⟨q, 0, none⟩) ∧ p ≠ q ∧ w5.heap.size ≤ p ∧ w5.heap.size ≤ q ∧ Hid (Box wx p #[.bool all, .bool no, .slice a i cap, .int .i64 d] 24 ∧ Box wx q #[.bool all, .bool no, .slice a i cap, .int .i64 d] 24 ∧ Below w5.heap.size w5 wx))
      case first =>
        have TW : Hid (Box ((w5.alloc (.cells #[.bool all, .bool no, .slice a i cap, .int .i64 d] 24)).alloc (.cells #[.bool all, .bool no, .slice a i cap, .int .i64 d] 24)).drew w5.heap.size #[.bool all, .bool no, .slice a i cap, .int .i64 d] 24 ∧ Box ((w5.alloc (.cells #[.bool all, .bool no, .slice a i cap, .int .i64 d] 24)).alloc (.cells #[.bool all, .bool no, .slice a i cap, .int .i64 d] 24)).drew (w5.heap.size + 1) #[.bool all, .bool no, .slice a i cap, .int .i64 d] 24 ∧ Below w5.heap.size w5 ((w5.alloc (.cells #[.bool all, .bool no, .slice a i cap, .int .i64 d] 24)).alloc (.cells #[.bool all, .bool no, .slice a i cap, .int .i64 d] 24)).drew) := Lib.hid
          ⟨((Box.new w5 _ _).alloc _).drew, (by simpa using Box.new (w5.alloc (.cells #[.bool all, .bool no, .slice a i cap, .int .i64 d] 24)) #[.bool all, .bool no, .slice a i cap, .int .i64 d] 24 : Box ((w5.alloc (.cells #[.bool all, .bool no, .slice a i cap, .int .i64 d] 24)).alloc (.cells #[.bool all, .bool no, .slice a i cap, .int .i64 d] 24)) (w5.heap.size + 1) #[.bool all, .bool no, .slice a i cap, .int .i64 d] 24).drew, (((Below.refl _ _).alloc (Nat.le_refl _) _).alloc (by simp) _).drew⟩
        go_region
        · go_wp2
          go_meet
          exact ⟨_, _, rfl, rfl, by omega, by omega, by omega, TW⟩
        · go_wp2
          go_meet
          exact ⟨_, _, rfl, rfl, by omega, by omega, by omega, Lib.hid ⟨TW.out.2.1, TW.out.1, TW.out.2.2⟩⟩
      case rest =>
        obtain ⟨p, q, rfl, rfl, hpq, hp5, hq5, HX⟩ := hcut
        have l8 := M8.out.lt
        have lg := OY.out.lt.2
        have BP := Lib.hid HX.out.1
        have BQ := Lib.hid HX.out.2.1
        have B5 := Lib.hid HX.out.2.2
        have X3 := Lib.hid (M3.out.later B5.out)
        have X8 := Lib.hid (M8.out.later B5.out)
        have XO := Lib.hid (OY.out.later B5.out)
        have XB := Lib.hid (MB.out.trans (B5.out.mono MB.out.size))
        have szx := B5.out.size
        have szw := MB.out.size
        clear HX M3 M8 OY MB B5 c0 c1 c2 c3
        have e0 := BP.out.cell 0
        have f0 := BP.out.free 0
        have lp := BP.out.lt
        have e1 := BQ.out.cell 0
        have e2 := BQ.out.cell 1
        have f1 := BQ.out.free 0
        have f2 := BQ.out.free 1
        have lq := BQ.out.lt
        go_upto_region 13 with fail
        obtain ⟨w6, hw6⟩ : ∃ W, ((wc.setCell ⟨p, 0, none⟩ (.bool true)).setCell ⟨q, 0, none⟩ (.bool false)).setCell ⟨q, 1, none⟩ (.bool true) = W := ⟨_, rfl⟩
        have P6 : Box w6 p #[.bool true, .bool no, .slice a i cap, .int .i64 d] 24 := by rw [← hw6]; exact ((BP.out.set 0 _).other hpq _).other hpq _
        have Q6 : Box w6 q #[.bool false, .bool true, .slice a i cap, .int .i64 d] 24 := by rw [← hw6]; exact ((BQ.out.other (fun e => hpq e.symm) _).set 0 _).set 1 _
        have R6 : Box w6 w.heap.size #[.bool all, .bool no, .slice a i cap, .int .i64 d] 24 := by rw [← hw6]; exact ((X3.out.other (by simp; omega) _).other (by simp; omega) _).other (by simp; omega) _
        have V6 : Box w6 wr.heap.size #[.bool all, .bool no, .slice (some ⟨g3, 0, none⟩) (i + 1) cap3, .int .i64 d] 24 := by rw [← hw6]; exact ((X8.out.other (by simp; omega) _).other (by simp; omega) _).other (by simp; omega) _
        have O6 : Own w6 w.heap.size 27 2 (some ⟨g3, 0, none⟩) (i + 1) cap3 (flatL (rs ++ [⟨true, more⟩])) := by
          rw [← hw6]
          exact ((XO.out.other (fun g e => by injection e with e; injection e with e; subst e; simp; omega) _).other (fun g e => by injection e with e; injection e with e; subst e; simp; omega) _).other (fun g e => by injection e with e; injection e with e; subst e; simp; omega) _
        have W6 : Below w.heap.size w w6 := by rw [← hw6]; exact ((XB.out.setCell (p := ⟨p, 0, none⟩) (by simp; omega) _).setCell (p := ⟨q, 0, none⟩) (by simp; omega) _).setCell (p := ⟨q, 1, none⟩) (by simp; omega) _
        rw [hw6]
        clear hw6 BP BQ X3 X8 XO XB e0 f0 e1 e2 f1 f2
        have P6 := Lib.hid P6
        have Q6 := Lib.hid Q6
        have R6 := Lib.hid R6
        have V6 := Lib.hid V6
        have RW := Lib.hid (rdr_of_own O6)
        have W6 := Lib.hid W6
        have R0 := Lib.hid (HR.out.later W6.out)
        have T6 := Lib.hid (HT.out.later W6.out)
        obtain ⟨b, hb⟩ : ∃ b : Bool, b = true ↔ mayP all no rs path := by classical exact ⟨decide (mayP all no rs path), by simp⟩
        have M1 : Hid (∀ W, Below w6.heap.size w6 W → Calls Tryd.prog 5 #[.agg #[.bool all, .bool no, .slice a i cap, .int .i64 d], .string path] W fun e w' => e = .returned (.bool b) ∧ Below W.heap.size W w') := Lib.hid (fun W hW =>
          may_at all no rs a i cap d path b hb W HLEN.out (R0.out.later hW) (by omega) (fun r hr => by have := HS.out r hr; omega) (by omega) (T6.out.later hW))
        have M2 : Hid (b = true → ∀ W, Below w6.heap.size w6 W → Calls Tryd.prog 5 #[.agg #[.bool all, .bool no, .slice (some ⟨g3, 0, none⟩) (i + 1) cap3, .int .i64 d], .string path] W fun e w' => e = .returned (.bool true) ∧ Below W.heap.size W w') := Lib.hid (fun hbt W hW =>
          may_at all no (rs ++ [⟨true, more⟩]) (some ⟨g3, 0, none⟩) (i + 1) cap3 d path true ⟨fun _ => by
              rcases hb.1 hbt with h | h | ⟨h1, h2⟩
              · exact Or.inl h
              · exact Or.inr (Or.inl h)
              · exact Or.inr (Or.inr ⟨h1, allowP_more rs ⟨true, more⟩ rfl _ h2⟩), fun _ => rfl⟩ W (by simp [HLEN.out]) (RW.out.later hW) (by omega) (fun r hr => by
              rcases List.mem_append.1 hr with hr | hr
              · have := HS.out r hr; omega
              · rw [List.mem_singleton.1 hr]; show more.size ≤ 10000; omega) (by omega) (T6.out.later hW))
        have M3 : Hid (∀ W, Below w6.heap.size w6 W → Calls Tryd.prog 5 #[.agg #[.bool true, .bool no, .slice a i cap, .int .i64 d], .string path] W fun e w' => e = .returned (.bool true) ∧ Below W.heap.size W w') := Lib.hid (fun W hW =>
          may_at true no rs a i cap d path true ⟨fun _ => Or.inr (Or.inl rfl), fun _ => rfl⟩ W HLEN.out (R0.out.later hW) (by omega) (fun r hr => by have := HS.out r hr; omega) (by omega) (T6.out.later hW))
        have M4 : Hid (∀ W, Below w6.heap.size w6 W → Calls Tryd.prog 5 #[.agg #[.bool false, .bool true, .slice a i cap, .int .i64 d], .string path] W fun e w' => e = .returned (.bool (isRob path)) ∧ Below W.heap.size W w') := Lib.hid (fun W hW =>
          may_at false true rs a i cap d path (isRob path) ⟨fun h => Or.inl h, fun h => by
            rcases h with h | h | h
            · exact h
            · cases h
            · cases h.1⟩ W HLEN.out (R0.out.later hW) (by omega) (fun r hr => by have := HS.out r hr; omega) (by omega) (T6.out.later hW))
        have M5 : Hid (∀ W, Below w6.heap.size w6 W → Calls Tryd.prog 5 #[.agg #[.bool false, .bool false, .slice none 0 0, .int .i64 d], .string path] W fun e w' => e = .returned (.bool true) ∧ Below W.heap.size W w') := Lib.hid (fun W hW =>
          may_at false false [] none 0 0 d path true ⟨fun _ => Or.inr (Or.inr ⟨rfl, Or.inr fun r hr => by cases hr⟩), fun _ => rfl⟩ W rfl (RdR.nil _ _) (by omega) (fun r hr => by cases hr) (by omega) (T6.out.later hW))
        have B6 := Lib.hid (Below.refl w6.heap.size w6)
        clear HR HLEN HS HT R0 RW O6 T6 hb h1 h2 h3 hp5 hq5
        have c0 := R6.out.cell 0
        have c1 := R6.out.cell 1
        have c2 := R6.out.cell 2
        have c3 := R6.out.cell 3
        have ltr := R6.out.lt
        have ltv := V6.out.lt
        go_wp2_with fail
        refine (M1.out _ B6.out).mono ?_
        rintro e w7 ⟨rfl, hb7⟩
        have B7 := Lib.hid hb7
        have k0 := (V6.out.later hb7).cell 0
        have k1 := (V6.out.later hb7).cell 1
        have k2 := (V6.out.later hb7).cell 2
        have k3 := (V6.out.later hb7).cell 3
        have ltv7 := (V6.out.later hb7).lt
        have MM2 := Lib.hid (fun h => M2.out h w7 hb7)
        have FIN : Hid (∀ W, Below w6.heap.size w6 W → Box W w.heap.size #[.bool all, .bool no, .slice a i cap, .int .i64 d] 24 ∧ Box W p #[.bool true, .bool no, .slice a i cap, .int .i64 d] 24 ∧ Box W q #[.bool false, .bool true, .slice a i cap, .int .i64 d] 24) := Lib.hid (fun W hW => ⟨R6.out.later hW, P6.out.later hW, Q6.out.later hW⟩)
        clear hb7 c0 c1 c2 c3 ltr ltv B6 M1 M2 R6 V6 P6 Q6
        obtain ⟨z, hz⟩ : ∃ z : Bool, isRob path = z := ⟨_, rfl⟩
        rw [hz] at M4
        unfold isRob at hz
        cases b with
        | true =>
          go_wp2_with fail
          refine (MM2.out (by simp)).mono ?_
          rintro e w8 ⟨rfl, hb8⟩
          have B8 := Lib.hid (B7.out.trans (hb8.mono B7.out.size))
          clear hb8 MM2 k0 k1 k2 k3 ltv7 B7
          go_wp2_with fail
          refine (AW.out _ (W6.out.trans (B8.out.mono W6.out.size))).mono ?_
          rintro e w9 ⟨rfl, hb9⟩
          have B9 := Lib.hid (B8.out.trans (hb9.mono B8.out.size))
          have p0 := (FIN.out _ B9.out).2.1.cell 0
          have p1 := (FIN.out _ B9.out).2.1.cell 1
          have p2 := (FIN.out _ B9.out).2.1.cell 2
          have p3 := (FIN.out _ B9.out).2.1.cell 3
          have lp9 := (FIN.out _ B9.out).2.1.lt
          clear hb9 B8
          go_wp2_with fail
          refine (M3.out _ B9.out).mono ?_
          rintro e w10 ⟨rfl, hb10⟩
          have B10 := Lib.hid (B9.out.trans (hb10.mono B9.out.size))
          have q0 := (FIN.out _ B10.out).2.2.cell 0
          have q1 := (FIN.out _ B10.out).2.2.cell 1
          have q2 := (FIN.out _ B10.out).2.2.cell 2
          have q3 := (FIN.out _ B10.out).2.2.cell 3
          have lq10 := (FIN.out _ B10.out).2.2.lt
          clear hb10 B9 p0 p1 p2 p3 lp9
          go_wp2_with fail
          refine (M4.out _ B10.out).mono ?_
          rintro e w11 ⟨rfl, hb11⟩
          have B11 := Lib.hid (B10.out.trans (hb11.mono B10.out.size))
          have r3 := (FIN.out _ B11.out).1.cell 3
          have lr11 := (FIN.out _ B11.out).1.lt
          clear hb11 B10 q0 q1 q2 q3 lq10
          cases z <;> (
            go_wp2_with fail
            refine (M5.out _ B11.out).mono ?_
            rintro e w12 ⟨rfl, hb12⟩
            go_wp2
            go_ret
            exact ⟨rfl, W6.out.trans ((B11.out.trans (hb12.mono B11.out.size)).mono W6.out.size)⟩)
        | false =>
          clear MM2 k0 k1 k2 k3 ltv7
          go_wp2_with fail
          refine (AW.out _ (W6.out.trans (B7.out.mono W6.out.size))).mono ?_
          rintro e w9 ⟨rfl, hb9⟩
          have B9 := Lib.hid (B7.out.trans (hb9.mono B7.out.size))
          have p0 := (FIN.out _ B9.out).2.1.cell 0
          have p1 := (FIN.out _ B9.out).2.1.cell 1
          have p2 := (FIN.out _ B9.out).2.1.cell 2
          have p3 := (FIN.out _ B9.out).2.1.cell 3
          have lp9 := (FIN.out _ B9.out).2.1.lt
          clear hb9 B7
          go_wp2_with fail
          refine (M3.out _ B9.out).mono ?_
          rintro e w10 ⟨rfl, hb10⟩
          have B10 := Lib.hid (B9.out.trans (hb10.mono B9.out.size))
          have q0 := (FIN.out _ B10.out).2.2.cell 0
          have q1 := (FIN.out _ B10.out).2.2.cell 1
          have q2 := (FIN.out _ B10.out).2.2.cell 2
          have q3 := (FIN.out _ B10.out).2.2.cell 3
          have lq10 := (FIN.out _ B10.out).2.2.lt
          clear hb10 B9 p0 p1 p2 p3 lp9
          go_wp2_with fail
          refine (M4.out _ B10.out).mono ?_
          rintro e w11 ⟨rfl, hb11⟩
          have B11 := Lib.hid (B10.out.trans (hb11.mono B10.out.size))
          have r3 := (FIN.out _ B11.out).1.cell 3
          have lr11 := (FIN.out _ B11.out).1.lt
          clear hb11 B10 q0 q1 q2 q3 lq10
          cases z <;> (
            go_wp2_with fail
            refine (M5.out _ B11.out).mono ?_
            rintro e w12 ⟨rfl, hb12⟩
            go_wp2
            go_ret
            exact ⟨rfl, W6.out.trans ((B11.out.trans (hb12.mono B11.out.size)).mono W6.out.size)⟩)
end Go.Proofs.YtodlecjbpmggiaaDoor
