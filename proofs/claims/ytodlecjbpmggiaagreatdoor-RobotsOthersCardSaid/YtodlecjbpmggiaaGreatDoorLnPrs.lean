/- Package lines: Parse. -/
import Derived.Test.YtodlecjbpmggiaaGreatDoorLnFn
import Derived.Test.YtodlecjbpmggiaaGreatDoorOwn
namespace Go.Proofs.YtodlecjbpmggiaaGreatDoor
open Go.RowKit
set_option linter.unusedVariables false
set_option linter.unusedSimpArgs false
set_option maxRecDepth 10000

theorem rowL : RowTy Tryz.prog 32 35 2 32 := ⟨Tryz.underlying32, ⟨.agg #[.string ⟨#[]⟩, .string ⟨#[]⟩], by kernel_rfl, rfl⟩, by decide⟩
theorem two_one (a b : ByteArray) : (#[Value.string a, .string b] : Array Value).all (·.oneCell') = true := by simp [Value.oneCell']
/-- Lines as cells. -/
def lnC (L : List (List Int × List Int)) : List Value := L.flatMap fun x => [.string (strL x.1), .string (strL x.2)]
theorem lnC_app (a b : List (List Int × List Int)) : lnC (a ++ b) = lnC a ++ lnC b := by unfold lnC; rw [List.flatMap_append]
theorem lnC_len (L : List (List Int × List Int)) : (lnC L).length = L.length * 2 := by
  induction L with
  | nil => rfl
  | cons x t ih => simp [lnC, List.flatMap_cons] at ih ⊢; omega
theorem lnC_get {L : List (List Int × List Int)} {i : Nat} {x : List Int × List Int} (h : L[i]? = some x) : (lnC L)[2 * i]? = some (.string (strL x.1)) ∧ (lnC L)[2 * i + 1]? = some (.string (strL x.2)) := by
  induction L generalizing i with
  | nil => simp at h
  | cons y t ih =>
    have e : lnC (y :: t) = .string (strL y.1) :: .string (strL y.2) :: lnC t := by simp [lnC]
    rw [e]
    cases i with
    | zero =>
      simp at h
      subst h
      simp
    | succ i =>
      have := ih (i := i) (by simpa using h)
      rw [show 2 * (i + 1) = 2 * i + 1 + 1 by omega, show 2 * i + 1 + 1 + 1 = (2 * i + 1) + 1 + 1 by omega]
      simpa using this
theorem pcs_len : ∀ (cur l : List Int), (pcs cur l).length ≤ l.length + 1
  | cur, [] => by simp [pcs]
  | cur, c :: t => by
    unfold pcs
    split
    · have := pcs_len [] t
      simp
      omega
    · have := pcs_len (cur ++ [c]) t
      simp
      omega
theorem limL_len (l : List Int) : (limL l).length ≤ 4096 ∧ (limL l).length ≤ l.length := by
  unfold limL
  have h : (l.take 4096).length ≤ 4096 ∧ (l.take 4096).length ≤ l.length := by rw [List.length_take]; omega
  split
  · rw [List.length_drop]; omega
  · exact h
theorem limL_byts {l : List Int} (h : Byts l) : Byts (limL l) := by
  unfold limL
  split
  · exact (h.take _).drop _
  · exact h.take _
theorem piece_size {p : Nat → Bool} {s x : ByteArray} (h : x ∈ Lib.goFieldsP p s) : x.size ≤ s.size := by
  unfold Lib.goFieldsP at h
  obtain ⟨y, _, rfl⟩ := List.mem_map.1 h
  simp [ByteArray.size_extract]
  omega
/-- The predicate of the ends of lines, at every rune. -/
theorem end_rune (c : Int) (h0 : 0 ≤ c) (h1 : c ≤ 2147483647) (w : World) :
    Calls Tryz.prog 25 #[.int .i32 c] w fun e w' => e = .returned (.bool (decide (c = 13) || decide (c = 10))) ∧ w' = w := by
  go_enter Tryz.func25, Tryz.ntmps25
  by_cases h : c = 13
  · have d1 : (c == 13) = true := beq_iff_eq.2 h
    go_wp2
    go_ret
    exact ⟨by simp [h], rfl⟩
  · have d1 : (c == 13) = false := beq_eq_false_iff_ne.2 h
    by_cases h2 : c = 10
    · have d2 : (c == 10) = true := beq_iff_eq.2 h2
      go_wp2
      go_ret
      exact ⟨by simp [h2], rfl⟩
    · have d2 : (c == 10) = false := beq_eq_false_iff_ne.2 h2
      go_wp2
      go_ret
      exact ⟨by simp [h, h2], rfl⟩
theorem end_grows (w : World) : PredGrows Tryz.prog 25 #[] endR w := by
  intro W x hx hb
  refine (end_rune (x : Int) (by omega) (by omega) W).mono ?_
  rintro e w' ⟨rfl, rfl⟩
  refine ⟨?_, Below.refl _ _⟩
  unfold endR
  congr 2
  rw [Bool.eq_iff_iff]
  simp only [Bool.or_eq_true, decide_eq_true_eq]
  omega
def FldP (s : ByteArray) (w : World) (e : Ending) (w' : World) : Prop := ∃ (A : Nat) (ps : List ByteArray), e = .returned (.slice (some ⟨A, 0, none⟩) ps.length ps.length) ∧ w.heap.size ≤ A ∧ Own w' w.heap.size 9 1 (some ⟨A, 0, none⟩) ps.length ps.length (ps.map Value.string) ∧ Below w.heap.size w w' ∧ ps.map btL = (pcs [] (btL s)).filter full ∧ ∀ x ∈ ps, x.size ≤ s.size
theorem lfields_at (s : ByteArray) (hs : s.size ≤ 100000) (w : World) :
    Calls Tryz.prog 24 #[.string s, .func (.func 25) #[] #[]] w (FldP s w) := by
  have eg : ∀ args w, (callFunc 25 args).run Tryz.prog w = .ok (.enter 25 args) w := enters_of Tryz.func25 (by kernel_rfl) rfl
  refine (Any.strings_FieldsFunc_grows Tryz.lays229 25 #[] eg endR s w (by omega) (end_grows w) (by kernel_rfl) (by kernel_rfl)).mono ?_
  rintro e w' ⟨A, rfl, hA, hown, hb⟩
  exact ⟨A, Lib.goFieldsP endR s, rfl, hA, hown, hb, fields_pcs s, fun x hx => piece_size hx⟩
def LinesP (L : List (List Int × List Int)) (w : World) (e : Ending) (w' : World) : Prop := ∃ (a : Option Addr) (cap : Nat), e = .returned (.slice a L.length cap) ∧ Own w' w.heap.size 35 2 a L.length cap (lnC L) ∧ Below w.heap.size w w'
theorem lhas_prefix : ∀ (p s : List UInt8), Lib.hasPrefix s p = (p.map fun u => (u.toNat : Int)).isPrefixOf (s.map fun u => (u.toNat : Int))
  | [], s => rfl
  | a :: p, [] => rfl
  | a :: p, b :: s => by
    have ih := lhas_prefix p s
    show (a == b && Lib.hasPrefix s p) = (((a.toNat : Nat) : Int) == ((b.toNat : Nat) : Int) && (p.map fun u => (u.toNat : Int)).isPrefixOf (s.map fun u => (u.toNat : Int)))
    rw [ih]
    congr 1
    rw [Bool.eq_iff_iff, beq_iff_eq, beq_iff_eq]
    constructor
    · intro h; rw [h]
    · intro h; exact UInt8.toNat_inj.1 (by omega)
theorem lim_b (s : ByteArray) : btL ⟨(Lib.trimPrefix (s.extract 0 (min (s.size : Int) 4096).toNat).data.toList [239, 187, 191]).toArray⟩ = limL (btL s) := by
  have hl := btL_length s
  have hx : btL (s.extract 0 (min (s.size : Int) 4096).toNat) = (btL s).take 4096 := by
    rw [ln_extract, List.drop_zero, Nat.sub_zero]
    by_cases h : s.size ≤ 4096
    · rw [List.take_of_length_le (by omega), List.take_of_length_le (by omega)]
    · rw [show (min (s.size : Int) 4096).toNat = 4096 by omega]
  unfold limL Lib.trimPrefix
  rw [lhas_prefix]
  have hy : (s.extract 0 (min (s.size : Int) 4096).toNat).data.toList.map (fun u => (u.toNat : Int)) = (btL s).take 4096 := hx
  rw [hy]
  rw [show (List.map (fun u : UInt8 => (u.toNat : Int)) [239, 187, 191]) = [239, 187, 191] from rfl]
  split
  · show List.map _ (List.drop 3 _) = _
    rw [List.map_drop, hy]
  · exact hx
/-- Where the loop over the pieces stands. -/
structure PL (ps : List ByteArray) (w wr : World) (A k : Nat) (a : Option Addr) (cap m : Nat) (L : List (List Int × List Int)) : Prop where
  own : Own wr w.heap.size 35 2 a m cap (lnC L)
  row : Own wr w.heap.size 9 1 (some ⟨A, 0, none⟩) ps.length ps.length (ps.map Value.string)
  ne : ∀ g, a = some ⟨g, 0, none⟩ → A ≠ g
  bel : Below w.heap.size w wr
  is : L = ((ps.take k).map btL).filterMap sayL
  len : L.length = m
  lt : A < wr.heap.size
set_option maxHeartbeats 4000000 in
theorem lparse_at (s : ByteArray) (hs : s.size ≤ 100000) (L0 : List (List Int × List Int)) (hL0 : linesL (btL s) = L0) (w : World) (hT : TabL w) :
    Calls Tryz.prog 12 #[.string s] w (LinesP L0 w) := by
  have HT := Lib.hid hT
  have hl := btL_length s
  have hlb := lim_b s
  obtain ⟨b, hb⟩ : ∃ b : ByteArray, ⟨(Lib.trimPrefix (s.extract 0 (min (s.size : Int) 4096).toNat).data.toList [239, 187, 191]).toArray⟩ = b := ⟨_, rfl⟩
  have TP : Hid (∀ W, Calls Tryz.prog 23 #[.string (s.extract 0 (min (s.size : Int) 4096).toNat), .string ⟨#[239, 187, 191]⟩] W fun e w' => e = .returned (.string b) ∧ w' = W) := Lib.hid (fun W => by
    have := Any.strings_TrimPrefix Tryz.lays101 (s.extract 0 (min (s.size : Int) 4096).toNat) ⟨#[239, 187, 191]⟩ W
    rw [show (({ data := #[239, 187, 191] } : ByteArray)).data.toList = [239, 187, 191] from rfl, hb] at this
    exact this)
  rw [hb] at hlb
  have hbz : b.size ≤ 4096 := by
    have h1 := btL_length b
    rw [hlb] at h1
    have := (limL_len (btL s)).1
    omega
  have FF := Lib.hid (fun W => lfields_at b (by omega) W)
  have HL0 : Hid (L0 = (pcs [] (btL b)).filterMap sayL) := Lib.hid (by rw [← hL0, hlb]; rfl)
  have HPL := Lib.hid (pcs_len [] (btL b))
  have HBL := Lib.hid (btL_length b)
  clear hL0 hlb hb hl hT
  go_enter Tryz.func12, Tryz.ntmps12
  go_wp2_with fail
  refine (TP.out _).mono ?_
  rintro e wx ⟨rfl, hw⟩
  subst wx
  go_wp2_with fail
  refine (FF.out _).mono ?_
  rintro e w1 ⟨A, ps, rfl, hA, hown, hb1, hps, hpz⟩
  have HPS : Hid (L0 = (ps.map btL).filterMap sayL) := Lib.hid (by rw [hps, full_say]; exact HL0.out)
  obtain ⟨n, hn⟩ : ∃ n, ps.length = n := ⟨_, rfl⟩
  have n1 : n ≤ 5000 := by
    have h1 := congrArg List.length hps
    rw [List.length_map] at h1
    have h2 := List.length_filter_le full (pcs [] (btL b))
    have h3 := HPL.out
    have h4 := HBL.out
    omega
  have HN := Lib.hid hn
  have A2 := Lib.hid hown.lt
  have HPZ := Lib.hid hpz
  rw [hn]
  have A3 : A < w1.heap.size := A2.out.2
  have P0 : Hid (PL ps w w1 A 0 none 0 0 []) := Lib.hid ⟨Own.nil _ _ _ _, hown, (fun g h => by cases h), hb1, rfl, rfl, A3⟩
  clear hown hb1 hps hpz hn FF TP HL0 HPL HBL
  go_wp2_with fail
  go_loopw [4, 6, 7, 8, 19] (fun l _ _ _ i wr => ∃ (k m : Nat) (a : Option Addr) (cap : Nat) (L : List (List Int × List Int)), k ≤ n ∧ i = .int .i64 (k : Int) ∧ l = .slice a m cap ∧ m ≤ k ∧ w.heap.size ≤ wr.heap.size ∧ A < wr.heap.size ∧ Hid (PL ps w wr A k a cap m L)) (fun _ _ _ _ i _ => n - (intOf i).toNat)
  case atStart => exact ⟨0, 0, none, 0, [], by omega, rfl, rfl, by omega, P0.out.bel.size, A3, P0⟩
  case round =>
    clear P0 A3
    obtain ⟨k, m, a, cap, L, hk, rfl, rfl, hm, sz, A3, HP⟩ := hrel
    by_cases hlt : k < n
    · have hkd : decide ((k : Int) < (n : Int)) = true := decide_eq_true (by omega)
      obtain ⟨x, hx⟩ : ∃ x, ps[k]? = some x := ⟨ps[k]'(by have := HN.out; omega), List.getElem?_eq_getElem _⟩
      have HX := Lib.hid hx
      have ca : wr.cell? ⟨A, k, none⟩ = some (.string x) := HP.out.row.cell (by rw [List.getElem?_map, hx]; rfl)
      have xz : x.size ≤ 1000000000000000 := by have := HPZ.out x (List.mem_of_getElem? hx); omega
      obtain ⟨o, ho⟩ : ∃ o, sayL (btL x) = o := ⟨_, rfl⟩
      have SG := Lib.hid (fun (W : World) (hW : TabL W) => significant_at x xz o ho W hW)
      have TK : Hid (((ps.take (k + 1)).map btL).filterMap sayL = L ++ o.toList) := Lib.hid (by
        rw [HP.out.is, List.take_add_one, hx, List.map_append, List.filterMap_append]
        congr 1
        show List.filterMap sayL [btL x] = _
        rw [List.filterMap_cons, ho]
        cases o <;> rfl)
      have TW := Lib.hid (HT.out.later HP.out.bel)
      clear hx ho xz
      go_wp2_with fail
      refine (SG.out _ TW.out).mono ?_
      rintro e w2 ⟨rfl, hb⟩
      have ow2 := Lib.hid (HP.out.own.later hb)
      have rw2 := Lib.hid (HP.out.row.later hb)
      have bw2 := Lib.hid (HP.out.bel.trans (hb.mono sz))
      have sz2 : wr.heap.size ≤ w2.heap.size := hb.size
      have NE := Lib.hid HP.out.ne
      have LEN := Lib.hid HP.out.len
      clear hb ca SG TW HP HX
      cases o with
      | none =>
        rw [show sayV none = .agg #[.string ⟨#[]⟩, .string ⟨#[]⟩] from rfl]
        simp only [Option.isSome_none]
        have Q : Hid (PL ps w (w2.alloc (.cells #[.string ⟨#[]⟩, .string ⟨#[]⟩] 35)) A (k + 1) a cap m L) := Lib.hid ⟨ow2.out.alloc _, rw2.out.alloc _, NE.out, bw2.out.alloc bw2.out.size _, by rw [TK.out]; simp, LEN.out, by simp; omega⟩
        have sq : w.heap.size ≤ (w2.alloc (.cells #[.string ⟨#[]⟩, .string ⟨#[]⟩] 35)).heap.size := by simp; omega
        have aq : A < (w2.alloc (.cells #[.string ⟨#[]⟩, .string ⟨#[]⟩] 35)).heap.size := by simp; omega
        clear ow2 rw2 bw2 NE TK LEN
        go_wp2
        go_roundw
        case rel => exact ⟨k + 1, m, a, cap, L, by omega, by go_num, rfl, by omega, sq, aq, Q⟩
        case measure => simp [intOf]; omega
      | some y =>
        obtain ⟨yk, yv⟩ := y
        obtain ⟨tk, htk⟩ : ∃ t, strL yk = t := ⟨_, rfl⟩
        obtain ⟨tv, htv⟩ : ∃ t, strL yv = t := ⟨_, rfl⟩
        rw [show sayV (some (yk, yv)) = .agg #[.string tk, .string tv] from by rw [← htk, ← htv]; rfl]
        simp only [Option.isSome_some]
        have HZ : Hid (lnC L ++ (#[Value.string tk, .string tv] : Array Value).toList = lnC (L ++ [(yk, yv)])) := Lib.hid (by rw [lnC_app, ← htk, ← htv]; rfl)
        obtain ⟨wB, hwB⟩ : ∃ W, w2.alloc (.cells #[.string tk, .string tv] 35) = W := ⟨_, rfl⟩
        have XB : Box wB w2.heap.size #[.string tk, .string tv] 35 := by rw [← hwB]; exact Box.new _ _ _
        have owB := Lib.hid (show Own wB _ _ _ _ _ _ _ from by rw [← hwB]; exact ow2.out.alloc _)
        have rwB := Lib.hid (show Own wB _ _ _ _ _ _ _ from by rw [← hwB]; exact rw2.out.alloc _)
        have bwB := Lib.hid (show Below w.heap.size w wB from by rw [← hwB]; exact bw2.out.alloc bw2.out.size _)
        have szB : wB.heap.size = w2.heap.size + 1 := by rw [← hwB]; simp
        have szB2 : w.heap.size ≤ wB.heap.size := by omega
        have AB : A < wB.heap.size := by omega
        have post : Hid (∀ (g cap' : Nat) (w3 : World), Own w3 w.heap.size 35 2 (some ⟨g, 0, none⟩) (m + 1) cap' (lnC (L ++ [(yk, yv)])) → wB.grownBy w3 (a.map (·.block)) → Below w.heap.size wB w3 → (a.map (·.block) = some g ∨ g = wB.heap.size + 1) → Hid (PL ps w w3 A (k + 1) (some ⟨g, 0, none⟩) cap' (m + 1) (L ++ [(yk, yv)])) ∧ w.heap.size ≤ w3.heap.size ∧ A < w3.heap.size) := Lib.hid (fun g cap' w3 h1 h2 h3 h4 => by
          have hne : some A ≠ a.map (·.block) := by
            rcases owB.out.form with ⟨rfl, _⟩ | ⟨g', rfl, _⟩
            · simp
            · intro e
              injection e with e
              exact NE.out g' rfl e
          have hAg : A ≠ g := by
            rcases h4 with h4 | h4
            · intro e
              exact hne (by rw [h4, e])
            · omega
          refine ⟨Lib.hid ⟨h1, rwB.out.blocks (fun g' e => ?_), fun g' e => by injection e with e; injection e with e; rw [← e]; exact hAg, bwB.out.trans h3, ?_, ?_, ?_⟩, Nat.le_trans szB2 h3.size, Nat.lt_of_lt_of_le AB h3.size⟩
          · injection e with e
            injection e with e
            subst e
            exact h2.block A AB hne
          · rw [TK.out]
            rfl
          · rw [List.length_append, LEN.out]
            rfl
          · exact Nat.lt_of_lt_of_le AB h3.size)
        have gl := XB.lt
        have z0 := XB.cell 0
        have z1 := XB.cell 1
        simp only [List.getElem?_toArray, List.getElem?_cons_zero, List.getElem?_cons_succ] at z0 z1
        clear ow2 rw2 bw2 NE TK LEN htk htv rwB bwB XB szB
        go_upto_region 8 with fail
        clear hwB
        go_wp2_with (at_builtin; refine wpList_app1 rowL rfl _ _ rfl w.heap.size a m cap (lnC L) rfl owB.out #[.string tk, .string tv] rfl rfl (two_one _ _) (by omega) (by decide) szB2 (m + 1) rfl (lnC (L ++ [(yk, yv)])) HZ.out ?_; rintro g cap' w3 ow3 rw3 bw3 ew3)
        obtain ⟨Q, q1, q2⟩ := post.out g cap' w3 ow3 rw3 bw3 ew3
        clear ow3 rw3 bw3 ew3 post
        go_wp2
        go_roundw
        case rel => exact ⟨k + 1, m + 1, some ⟨g, 0, none⟩, cap', L ++ [(yk, yv)], by omega, by go_num, rfl, by omega, q1, q2, Q⟩
        case measure => simp [intOf]; omega
    · have hkd : decide ((k : Int) < (n : Int)) = false := decide_eq_false (by omega)
      have HE : Hid (L = L0) := Lib.hid (by
        rw [HPS.out, HP.out.is, List.take_of_length_le (by have := HN.out; omega)])
      go_wp2
      go_ret
      refine ⟨a, cap, ?_, ?_, HP.out.bel⟩
      · rw [← HE.out, HP.out.len]
        rfl
      · have := HP.out.own
        rw [← HE.out, HP.out.len]
        exact this
end Go.Proofs.YtodlecjbpmggiaaGreatDoor
